/- ForestC TreOpen PthOpen PtvLay PtvBld PtvStr -/
import Derived.Test.YtikmilcdibldhaaDoorAM2
import Derived.Deep.Slices
import Derived.Deep.Fields
import Derived.ChangeSame
import Derived.SliceStrings
import Derived.OpenShut
import Derived.Shelf.Small.Wraps
import Derived.Shelf.Strings.Prefix
import Derived.Shelf.Strings.SlTrimAscii
import Derived.Test.YtikmilcdibldhaaDoorChecked
import Derived.Test.YtikmilcdibldhaaDoorAM0
import Derived.Shelf.Strings.BuilderK
import Derived.Lib.FrozenHead2
import Derived.Lib.OthersKept
import Derived.Lib.Hide
import Derived.Outline
import Derived.Test.YtikmilcdibldhaaDoorAM4
set_option linter.unusedSimpArgs false
set_option linter.unusedVariables false
namespace Go.Proofs.YtikmilcdibldhaaDoor
open Go.RowKit
section
variable {α : Type} {D : RdOf α} {e : TypeId} {K p : Nat} {w w' : World} {base : Nat} {S S' N N' : Nat → Prop} {v : Value} {f g : Fr α}
theorem FrAt.take (n : Nat) : ∀ {f : Fr α} {b o : Nat}, FrAt D K p w S N f b o → FrAt D K p w S N (Fr.take n f) b o := by
 induction n with
 | zero => intro f b o h; cases f <;> trivial
 | succ n ih =>
  intro f b o h
  cases f with
  | nil => trivial
  | cons a k r => exact ⟨h.1, ih h.2⟩
theorem FrV.front {A : Option Addr} {L c n : Nat} (hn : n ≤ f.len) (h : FrV D K p w S N (.slice A L c) f) : FrV D K p w S N (.slice A n c) (Fr.take n f) := by
 obtain ⟨A', c', e, h1, h2⟩ := h
 injection e with e1 e2 e3
 subst e1 e2 e3
 have hl := Fr.len_take n f hn
 refine ⟨A, c, by rw [hl], by omega, fun h0 => ?_⟩
 obtain ⟨b, o, h3, h4, h5⟩ := h2 (by omega)
 exact ⟨b, o, h3, h4, h5.take n⟩
theorem FrV.back {b o L c n : Nat} (hn : n ≤ f.len) (h : FrV D K p w S N (.slice (some ⟨b, o, none⟩) L c) f) : FrV D K p w S N (.slice (some ⟨b, o + n * K, none⟩) (f.len - n) (c - n)) (Fr.drop n f) := by
 obtain ⟨A', c', e, h1, h2⟩ := h
 injection e with e1 e2 e3
 subst e2 e3
 have hl := Fr.len_drop n f
 refine ⟨_, _, by rw [hl], by omega, fun h0 => ?_⟩
 obtain ⟨b', o', h3, h4, h5⟩ := h2 (by omega)
 rw [← e1] at h3
 injection h3 with h3
 injection h3 with e4 e5 _
 subst e4 e5
 exact ⟨b, _, rfl, h4, h5.drop n⟩
def AppGs (D : RdOf α) (e : TypeId) (K p : Nat) (base : Nat) (S N : Nat → Prop) (w : World) (v : Value) (f : Fr α) (v' : Value) (w' : World) : Prop :=
 OwnG D e K p w' base S N v' f ∧ w.grownBy w' v.ownBlock ∧ (v'.ownBlock = v.ownBlock ∨ v'.ownBlock = some w.heap.size)
theorem AppGs.below {v' : Value} {g : Fr α} (h : AppGs D e K p base S N w v g v' w') (hown : OwnG D e K p w base S N v f) (hb : base ≤ w.heap.size) : Below base w w' :=
 (Below.refl _ _).grown h.2.1 hb fun b e => (hown.lt b e).1
end
end Go.Proofs.YtikmilcdibldhaaDoor
namespace Go.Proofs.YtikmilcdibldhaaDoor
open Go.RowKit
open Go.ChangeShapes Go.WideShapes Go.Deep
theorem add_bare9 (b o j : Nat) : (⟨b, o, none⟩ : Addr).add j = ⟨b, o + j, none⟩ := by unfold Addr.add; split <;> simp_all
theorem cellsStr9 : Tryd.prog.cellsOf 9 = 1 := by kernel_rfl
theorem cellsStep : Tryd.prog.cellsOf 46 = 2 := by kernel_rfl
end Go.Proofs.YtikmilcdibldhaaDoor
namespace Go.Proofs.YtikmilcdibldhaaDoor
open Go.RowKit
open Go.ChangeShapes Go.WideShapes Go.Deep
set_option maxRecDepth 100000 in
theorem open_way15 {H : Type} {enc : TypeId × Value → H} {W : World} {fuel : Nat} {v : Value} {x : DataW H × List MemPlace} (h : DataW.trod enc Tryd.prog W 0 (fun _ => true) true fuel 23 [v] = some x) : ∃ l, WayV W.heap.size W v l ∧ ∀ s ∈ l, s.1.length ≤ 9223372036854775807 ∧ s.2.length ≤ 9223372036854775807 := by
 rcases DataW.trod_slice Tryd.underlying23 h with ⟨hcs, rfl⟩ | ⟨a, len, cap, elems, rest, n, rfl, hcs, rfl, hb, hl, hm, hlen, hel, -, -⟩
 ·simp at hcs
  subst hcs
  exact ⟨[], WayV.nil _ _ _ _, by simp⟩
 ·simp at hcs
  subst hcs
  by_cases h0 : 0 < len
  ·have hcell0 : ∃ u, W.cell? a = some u := by
    have h1 := hel 0 h0
    rw [List.getElem?_eq_getElem (by omega)] at h1
    obtain ⟨cs', h2, _⟩ := Option.bind_eq_some_iff.1 h1
    rw [cellsStep] at h2
    obtain ⟨_, h3, h4⟩ := World.cells?_some h2
    have h5 := h4 0 (by omega)
    rw [List.getElem?_eq_getElem (by omega)] at h5
    exact ⟨_, by simpa [Addr.add] using h5⟩
   obtain ⟨u0, hu0⟩ := hcell0
   have hsp0 : a.spot = none := World.cell?_spot hu0
   have hlt : a.block < W.heap.size := World.block_lt_of_cell? W _ hu0
   obtain ⟨b, off, sp⟩ := a
   have hsp : sp = none := hsp0
   subst hsp
   have rows : ∀ m, m ≤ len → ∃ l : List Stp, l.length = m ∧ ∀ j s, l[j]? = some s → W.cell? ⟨b, off + (len - m + j) * 2, none⟩ = some (.string (txt s.1)) ∧ W.cell? ⟨b, off + (len - m + j) * 2 + 1, none⟩ = some (.string (txt s.2)) ∧ s.1.length ≤ 9223372036854775807 ∧ s.2.length ≤ 9223372036854775807 := by
    intro m
    induction m with
    | zero => intro _; exact ⟨[], rfl, fun j s h => by simp at h⟩
    | succ m ihm =>
     intro hm'
     obtain ⟨r, hr1, hr2⟩ := ihm (by omega)
     obtain ⟨i, hi⟩ : ∃ i, i = len - (m + 1) := ⟨_, rfl⟩
     have hi1 : len - m = i + 1 := by omega
     have hil : i < len := by omega
     rw [hi1] at hr2
     rw [← hi]
     have h1 := hel i hil
     have hie : i < elems.length := by omega
     rw [List.getElem?_eq_getElem hie] at h1
     obtain ⟨cs', h2, h3⟩ := Option.bind_eq_some_iff.1 h1
     rw [cellsStep] at h2
     obtain ⟨_, hcl, hat⟩ := World.cells?_some h2
     have hcc : ∀ j, j < 2 → W.cell? ⟨b, off + i * 2 + j, none⟩ = cs'[j]? := fun j hj => by
      have h5 := hat j hj
      rw [add_bare9, add_bare9] at h5
      exact h5
     obtain ⟨ys, k, hk, hy, hlen', hyl, hf⟩ := DataW.trod_struct Tryd.underlying46 h3
     have hyl' : ys.length = 2 := hyl
     match cs', hcl, ys, hyl' with
     | [v0, v1], _, [y0, y1], _ =>
      have f0 : DataW.trod enc Tryd.prog W 0 (fun _ => true) true k 9 (List.take (Tryd.prog.cellsOf 9) (List.drop 0 [v0, v1])) = some _ := (hf 0 _ rfl).trans rfl
      have f1 : DataW.trod enc Tryd.prog W 0 (fun _ => true) true k 9 (List.take (Tryd.prog.cellsOf 9) (List.drop 1 [v0, v1])) = some _ := (hf 1 _ rfl).trans rfl
      rw [cellsStr9] at f0 f1
      simp only [List.drop_zero, List.drop_succ_cons, List.take_succ_cons, List.take_zero] at f0 f1
      obtain ⟨s0, e0, _, z0⟩ := DataW.trod_string Tryd.underlying9 f0
      obtain ⟨s1, e1, _, z1⟩ := DataW.trod_string Tryd.underlying9 f1
      simp at e0 e1
      subst e0 e1
      refine ⟨(s0.data.toList, s1.data.toList) :: r, by simp [hr1], fun j s hj => ?_⟩
      cases j with
      | zero =>
       simp at hj
       subst hj
       have g0 := hcc 0 (by omega)
       have g1 := hcc 1 (by omega)
       simp only [Nat.add_zero, List.getElem?_cons_zero, List.getElem?_cons_succ] at g0 g1
       unfold maxLen at z0 z1
       refine ⟨?_, ?_, by have h9 := txt_size s0.data.toList; rw [show txt s0.data.toList = s0 from txt_ext (txt_data _)] at h9; show s0.data.toList.length ≤ _; rw [← h9]; exact z0, by have h9 := txt_size s1.data.toList; rw [show txt s1.data.toList = s1 from txt_ext (txt_data _)] at h9; show s1.data.toList.length ≤ _; rw [← h9]; exact z1⟩
       ·rw [show i + 0 = i from rfl, g0, show txt s0.data.toList = s0 from txt_ext (txt_data _)]
       ·rw [show i + 0 = i from rfl, g1, show txt s1.data.toList = s1 from txt_ext (txt_data _)]
      | succ j =>
       have h9 := hr2 j s (by simpa using hj)
       rw [show i + 1 + j = i + (j + 1) by omega] at h9
       exact h9
   obtain ⟨l, hl1, hl2⟩ := rows len (Nat.le_refl _)
   rw [Nat.sub_self] at hl2
   subst hl1
   refine ⟨l, ⟨_, cap, rfl, by omega, fun _ => ⟨b, off, rfl, hlt, fun j s hs => ?_⟩⟩, fun s hs => ?_⟩
   ·have h9 := hl2 j s hs
    rw [Nat.zero_add] at h9
    exact ⟨h9.1, h9.2.1⟩
   ·obtain ⟨j, hj, e⟩ := List.getElem_of_mem hs
    exact (hl2 j s (by rw [List.getElem?_eq_getElem hj, e])).2.2
  ·obtain rfl : len = 0 := by omega
   exact ⟨[], WayV.nil _ _ _ _, by simp⟩
set_option maxRecDepth 100000 in
theorem open_step15 {H : Type} {enc : TypeId × Value → H} {W : World} {v : Value} {d : DataW H} {p : List MemPlace} (h : DataW.Trod enc Tryd.prog W 0 (fun _ => true) true 46 v d p) (hv : ∃ cs : Array Value, v = .agg cs) :
  ∃ s : Stp, v = .agg #[.string (txt s.1), .string (txt s.2)] := by
 obtain ⟨fuel, hf⟩ := h
 obtain ⟨cs, rfl⟩ := hv
 have hf' : DataW.trod enc Tryd.prog W 0 (fun _ => true) true fuel 46 cs.toList = some (d, p) := hf
 obtain ⟨ys, k, hk, hy, hlen', hyl, hf⟩ := DataW.trod_struct Tryd.underlying46 hf'
 rw [cellsStep] at hlen'
 have hyl' : ys.length = 2 := hyl
 obtain ⟨cl⟩ := cs
 match cl, hlen', ys, hyl' with
 | [v0, v1], _, [y0, y1], _ =>
  have f0 : DataW.trod enc Tryd.prog W 0 (fun _ => true) true k 9 (List.take (Tryd.prog.cellsOf 9) (List.drop 0 [v0, v1])) = some _ := (hf 0 _ rfl).trans rfl
  have f1 : DataW.trod enc Tryd.prog W 0 (fun _ => true) true k 9 (List.take (Tryd.prog.cellsOf 9) (List.drop 1 [v0, v1])) = some _ := (hf 1 _ rfl).trans rfl
  rw [cellsStr9] at f0 f1
  simp only [List.drop_zero, List.drop_succ_cons, List.take_succ_cons, List.take_zero] at f0 f1
  obtain ⟨s0, e0, _, _⟩ := DataW.trod_string Tryd.underlying9 f0
  obtain ⟨s1, e1, _, _⟩ := DataW.trod_string Tryd.underlying9 f1
  simp at e0 e1
  subst e0 e1
  refine ⟨(s0.data.toList, s1.data.toList), ?_⟩
  show Value.agg #[.string s0, .string s1] = .agg #[.string (txt s0.data.toList), .string (txt s1.data.toList)]
  rw [show txt s0.data.toList = s0 from txt_ext (txt_data _), show txt s1.data.toList = s1 from txt_ext (txt_data _)]
end Go.Proofs.YtikmilcdibldhaaDoor
namespace Go.Proofs.YtikmilcdibldhaaDoor
open Go.RowKit Go.Shelf
def renNm : Go.Shelf.Ren := ⟨fun | 99 => 32 | 102 => 46 | 103 => 44 | 119 => 78 | 137 => 77 | 151 => 70 | 152 => 75 | 161 => 45 | 197 => 69 | 206 => 43 | 207 => 71 | 209 => 63 | 210 => 58 | 217 => 82 | 224 => 79 | 225 => 80 | 227 => 60 | 228 => 68 | 231 => 59 | 233 => 61 | 235 => 62 | 260 => 74 | 266 => 83 | n => n, fun | 0 => 0 | 3 => 3 | 4 => 4 | 5 => 5 | 9 => 9 | 21 => 21 | 24 => 79 | 46 => 113 | 105 => 106 | 116 => 98 | 117 => 99 | 119 => 112 | 124 => 102 | 138 => 115 | 139 => 116 | n => n, fun | 3 => 0 | 4 => 1 | n => n⟩
set_option maxRecDepth 100000 in
set_option maxHeartbeats 4000000 in
theorem sl99 : Go.Proofs.Lays.n99 Tryd.prog renNm := {
 mixed := by kernel_rfl
 f99 := Tryd.func32.trans (congrArg some (by kernel_rfl))
 f206 := Tryd.func43.trans (congrArg some (by kernel_rfl))
 t3 := Tryd.underlying3
 a3 := Tryd.isAgg3
 z3 := Tryd.sizeOf3
 v3 := Tryd.zeroValue3
 t4 := Tryd.underlying4
 a4 := Tryd.isAgg4
 z4 := Tryd.sizeOf4
 v4 := Tryd.zeroValue4
 t9 := Tryd.underlying9
 a9 := Tryd.isAgg9
 z9 := Tryd.sizeOf9
 v9 := Tryd.zeroValue9 }
set_option maxRecDepth 100000 in
set_option maxHeartbeats 4000000 in
theorem sl102 : Go.Proofs.Lays.n102 Tryd.prog renNm := {
 mixed := by kernel_rfl
 f102 := Tryd.func46.trans (congrArg some (by kernel_rfl))
 f207 := Tryd.func71.trans (congrArg some (by kernel_rfl))
 f209 := Tryd.func63.trans (congrArg some (by kernel_rfl))
 t3 := Tryd.underlying3
 a3 := Tryd.isAgg3
 z3 := Tryd.sizeOf3
 v3 := Tryd.zeroValue3
 t4 := Tryd.underlying4
 a4 := Tryd.isAgg4
 z4 := Tryd.sizeOf4
 v4 := Tryd.zeroValue4
 t9 := Tryd.underlying9
 a9 := Tryd.isAgg9
 z9 := Tryd.sizeOf9
 v9 := Tryd.zeroValue9 }
set_option maxRecDepth 100000 in
set_option maxHeartbeats 4000000 in
theorem sl103 : Go.Proofs.Lays.n103 Tryd.prog renNm := {
 mixed := by kernel_rfl
 f103 := Tryd.func44.trans (congrArg some (by kernel_rfl))
 f206 := Tryd.func43.trans (congrArg some (by kernel_rfl))
 f210 := Tryd.func58.trans (congrArg some (by kernel_rfl))
 t3 := Tryd.underlying3
 a3 := Tryd.isAgg3
 z3 := Tryd.sizeOf3
 v3 := Tryd.zeroValue3
 t4 := Tryd.underlying4
 a4 := Tryd.isAgg4
 z4 := Tryd.sizeOf4
 v4 := Tryd.zeroValue4
 t9 := Tryd.underlying9
 a9 := Tryd.isAgg9
 z9 := Tryd.sizeOf9
 v9 := Tryd.zeroValue9
 t24 := Tryd.underlying79
 a24 := Tryd.isAgg79
 z24 := Tryd.sizeOf79
 v24 := Tryd.zeroValue79 }
set_option maxRecDepth 100000 in
set_option maxHeartbeats 4000000 in
theorem sl161 : Go.Proofs.Lays.n161 Tryd.prog renNm := {
 mixed := by kernel_rfl
 f119 := Tryd.func78.trans (congrArg some (by kernel_rfl))
 f137 := Tryd.func77.trans (congrArg some (by kernel_rfl))
 f151 := Tryd.func70.trans (congrArg some (by kernel_rfl))
 f152 := Tryd.func75.trans (congrArg some (by kernel_rfl))
 f161 := Tryd.func45.trans (congrArg some (by kernel_rfl))
 f197 := Tryd.func69.trans (congrArg some (by kernel_rfl))
 f217 := Tryd.func82.trans (congrArg some (by kernel_rfl))
 f224 := Tryd.func79.trans (congrArg some (by kernel_rfl))
 f225 := Tryd.func80.trans (congrArg some (by kernel_rfl))
 f227 := Tryd.func60.trans (congrArg some (by kernel_rfl))
 f228 := Tryd.func68.trans (congrArg some (by kernel_rfl))
 f231 := Tryd.func59.trans (congrArg some (by kernel_rfl))
 f233 := Tryd.func61.trans (congrArg some (by kernel_rfl))
 f235 := Tryd.func62.trans (congrArg some (by kernel_rfl))
 f260 := Tryd.func74.trans (congrArg some (by kernel_rfl))
 f266 := Tryd.func83.trans (congrArg some (by kernel_rfl))
 t0 := Tryd.underlying0
 a0 := Tryd.isAgg0
 z0 := Tryd.sizeOf0
 v0 := Tryd.zeroValue0
 t3 := Tryd.underlying3
 a3 := Tryd.isAgg3
 z3 := Tryd.sizeOf3
 v3 := Tryd.zeroValue3
 t4 := Tryd.underlying4
 a4 := Tryd.isAgg4
 z4 := Tryd.sizeOf4
 v4 := Tryd.zeroValue4
 t5 := Tryd.underlying5
 a5 := Tryd.isAgg5
 z5 := Tryd.sizeOf5
 v5 := Tryd.zeroValue5
 t9 := Tryd.underlying9
 a9 := Tryd.isAgg9
 z9 := Tryd.sizeOf9
 v9 := Tryd.zeroValue9
 t21 := Tryd.underlying21
 a21 := Tryd.isAgg21
 z21 := Tryd.sizeOf21
 v21 := Tryd.zeroValue21
 t46 := Tryd.underlying113
 a46 := Tryd.isAgg113
 z46 := Tryd.sizeOf113
 v46 := Tryd.zeroValue113
 t105 := Tryd.underlying106
 a105 := Tryd.isAgg106
 z105 := Tryd.sizeOf106
 v105 := Tryd.zeroValue106
 t116 := Tryd.underlying98
 a116 := Tryd.isAgg98
 z116 := Tryd.sizeOf98
 t117 := Tryd.underlying99
 a117 := Tryd.isAgg99
 z117 := Tryd.sizeOf99
 v117 := Tryd.zeroValue99
 t119 := Tryd.underlying112
 a119 := Tryd.isAgg112
 z119 := Tryd.sizeOf112
 t124 := Tryd.underlying102
 a124 := Tryd.isAgg102
 z124 := Tryd.sizeOf102
 v124 := Tryd.zeroValue102
 t138 := Tryd.underlying115
 a138 := Tryd.isAgg115
 z138 := Tryd.sizeOf115
 v138 := Tryd.zeroValue115
 t139 := Tryd.underlying116
 a139 := Tryd.isAgg116
 z139 := Tryd.sizeOf116
 v139 := Tryd.zeroValue116
 g3 := by kernel_rfl
 g4 := by kernel_rfl }
def inNm : List UInt8 := [97, 98, 99, 100, 101, 102, 103, 104, 105, 106, 107, 108, 109, 110, 111, 112, 113, 114, 115, 116, 117, 118, 119, 120, 121, 122, 48, 49, 50, 51, 52, 53, 54, 55, 56, 57, 45]
theorem info_set : (Tryd.prog.info? 98).map (fun i => (i.zero, i.size)) = some (some (.agg (Array.replicate 256 (.bool false))), 256) := by kernel_rfl
end Go.Proofs.YtikmilcdibldhaaDoor
namespace Go.Proofs.YtikmilcdibldhaaDoor
open Go.RowKit Go.Shelf
theorem gr_trans {a b c : World} {row : Option Nat} (h : a.grownBy b row) (k : b.grownBy c row) : a.grownBy c row :=
 ⟨k.os.trans h.os, k.tape.trans h.tape, k.output.trans h.output, Nat.le_trans h.size k.size, fun i hi hr => (k.block i (Nat.lt_of_lt_of_le hi h.size) hr).trans (h.block i hi hr)⟩
theorem gr_of {a b : World} {B : Nat} (h : Below B a b) (hB : a.heap.size ≤ B) (row : Option Nat) : a.grownBy b row :=
 ⟨h.os, h.tape, h.output, h.size, fun i hi _ => h.block i (Nat.lt_of_lt_of_le hi hB)⟩
theorem gr_below {a b c : World} {B : Nat} {row : Option Nat} (h : a.grownBy b row) (k : Below B b c) (hB : a.heap.size ≤ B) : a.grownBy c row :=
 ⟨k.os.trans h.os, k.tape.trans h.tape, k.output.trans h.output, Nat.le_trans h.size k.size, fun i hi hr => (k.block i (Nat.lt_of_lt_of_le hi hB)).trans (h.block i hi hr)⟩
theorem gr_set {w : World} (p : Addr) (u : Value) : w.grownBy (w.setCell p u) (some p.block) :=
 ⟨rfl, rfl, rfl, by simp [World.setCell], fun i _ hr => Below.heap_setCell w p u i (fun e => hr (by rw [e]))⟩
theorem bld_kept {T e : TypeId} {B b g : Nat} {bs : List Value} {w w' : World} (h : Lib.IsBuilderF T e B b bs w) (hg : w.grownBy w' (some g)) (hb : g < B) : Lib.IsBuilderF T e B b bs w' := by
 have k : ∀ p, Lib.BuilderAtF T e B b p bs w → Lib.BuilderAtF T e B b p bs w' := fun p ⟨h1, v, h2, h3, h4⟩ => by
  refine ⟨h1, v, (hg.block b (Array.getElem?_eq_some_iff.1 h2).1 (by simp; omega)).trans h2, h3.kept hg ?_, h4⟩
  cases hv : v.ownBlock with
  | none => exact .inl rfl
  | some k =>
   have := (h3.lt k hv).1
   exact .inr (by simp; omega)
 exact h.elim (fun x => .inl (k _ x)) (fun x => .inr (k _ x))
theorem bld_below {T e : TypeId} {B b : Nat} {bs : List Value} {w w' : World} (h : Lib.IsBuilderF T e B b bs w) (hg : Below w.heap.size w w') : Lib.IsBuilderF T e B b bs w' := by
 have k : ∀ p, Lib.BuilderAtF T e B b p bs w → Lib.BuilderAtF T e B b p bs w' := fun p ⟨h1, v, h2, h3, h4⟩ => by
  have hgr : w.grownBy w' none := gr_of hg (Nat.le_refl _) none
  refine ⟨h1, v, (hg.block b (Array.getElem?_eq_some_iff.1 h2).1).trans h2, h3.kept hgr ?_, h4⟩
  cases hv : v.ownBlock with
  | none => exact .inl rfl
  | some k => exact .inr (by simp)
 exact h.elim (fun x => .inl (k _ x)) (fun x => .inr (k _ x))
def bren : Go.Shelf.Ren := ⟨fun | 169 => 25 | n => n, fun | 0 => 0 | 3 => 3 | 4 => 4 | 5 => 5 | 9 => 9 | 37 => 56 | 70 => 55 | 72 => 58 | 127 => 75 | n => n, fun | n => n⟩
theorem blays169 : Go.Proofs.Lays.n169 Tryd.prog bren := {
 mixed := by kernel_rfl
 f169 := Tryd.func25.trans (congrArg some (by kernel_rfl))
 t0 := Tryd.underlying0
 a0 := Tryd.isAgg0
 z0 := Tryd.sizeOf0
 v0 := Tryd.zeroValue0
 t3 := Tryd.underlying3
 a3 := Tryd.isAgg3
 z3 := Tryd.sizeOf3
 v3 := Tryd.zeroValue3
 t9 := Tryd.underlying9
 a9 := Tryd.isAgg9
 z9 := Tryd.sizeOf9
 v9 := Tryd.zeroValue9
 t37 := Tryd.underlying56
 a37 := Tryd.isAgg56
 z37 := Tryd.sizeOf56
 v37 := Tryd.zeroValue56
 t70 := Tryd.underlying55
 a70 := Tryd.isAgg55
 z70 := Tryd.sizeOf55
 v70 := Tryd.zeroValue55
 t72 := Tryd.underlying58
 a72 := Tryd.isAgg58
 z72 := Tryd.sizeOf58
 v72 := Tryd.zeroValue58
 t127 := Tryd.underlying75
 a127 := Tryd.isAgg75
 z127 := Tryd.sizeOf75
 v127 := Tryd.zeroValue75 }
theorem bextra : Builder.Extra Tryd.prog bren := {
 sizeBuilder := by kernel_rfl
 liesBuilder := by kernel_rfl
 t5 := Tryd.underlying5
 a5 := Tryd.isAgg5
 z5 := Tryd.sizeOf5
 v5 := Tryd.zeroValue5
 infoByte := by kernel_rfl
 cellsByte := by kernel_rfl
 sizeByte := by kernel_rfl
 neB5 := by decide }
def Bld (w : World) (B b : Nat) (l : List UInt8) : Prop := Lib.IsBuilderF 58 5 B b (Lib.byteCells l) w
theorem Bld.fresh (w : World) : Bld (w.alloc (.cells #[.pointer none, .slice none 0 0] 58)) w.heap.size w.heap.size [] := Lib.IsBuilderF.of (Lib.fresh_isBuilder _ _ w)
theorem Bld.kept {w w' : World} {B b g : Nat} {l : List UInt8} (h : Bld w B b l) (hg : w.grownBy w' (some g)) (hb : g < B) : Bld w' B b l := bld_kept h hg hb
theorem Bld.below {w w' : World} {B b : Nat} {l : List UInt8} (h : Bld w B b l) (hg : Below w.heap.size w w') : Bld w' B b l := bld_below h hg
def BldP (w : World) (B b : Nat) (l : List UInt8) (w' : World) : Prop := Bld w' B b l ∧ Below B w w' ∧ Lib.OthersKept 5 (some b) w w'
theorem bstring_any (B b : Nat) (l : List UInt8) (w : World) (h : Bld w B b l) (hBw : B ≤ w.heap.size) :
  Calls Tryd.prog 25 #[.pointer (some ⟨b, 0, none⟩)] w fun e w' => e = .returned (.string (txt l)) ∧ BldP w B b l w' :=
 (Any.Builder_String_any_k blays169 bextra B b l w h hBw).mono fun _ _ ⟨h1, h2, h3, h4⟩ => ⟨h1, h2, h3, h4⟩
theorem info_b : (Tryd.prog.info? 5).map (fun i => (i.zero, i.size, i.bytes)) = some (some (.int .u8 0), 1, 1) := by kernel_rfl
theorem info_bld : (Tryd.prog.info? 58).map (·.size) = some 2 := by kernel_rfl
theorem lies_bld : liesAt Tryd.prog Tryd.prog.depth 58 (2 / Tryd.prog.cellsOf 58) 0 58 1 = true := by kernel_rfl
theorem shape_bld {w : World} {b : Nat} {cs : Array Value} (h : Blk w b 58 cs) (hc : cs.size = 2) : w.shape? b = some (58, 2) := by
 unfold World.shape?
 rw [show w.heap[b]? = some (.cells cs 58 (0, 0)) from h]
 simp [hc]
def CopyP (w : World) (B b : Nat) (bs : List Value) (r : Ending) (w' : World) : Prop :=
 r = .returned (.tuple #[]) ∧ Lib.BuilderAtF 58 5 B b (.pointer (some ⟨b, 0, none⟩)) bs w' ∧ Below B w w' ∧ Lib.OthersKept 5 (some b) w w'
set_option maxRecDepth 100000 in
set_option maxHeartbeats 1000000 in
theorem copy_fresh (b : Nat) (v : Value) (w : World) (h : Blk w b 58 #[.pointer none, v]) :
  Calls Tryd.prog 37 #[.pointer (some ⟨b, 0, none⟩)] w fun e w' => e = .returned (.tuple #[]) ∧ w' = w.setCell ⟨b, 0, none⟩ (.pointer (some ⟨b, 0, none⟩)) := by
 obtain ⟨j, hj, hjs⟩ := Option.map_eq_some_iff.1 info_bld
 have hsh := shape_bld h rfl
 have h0 : w.cell? ⟨b, 0, none⟩ = some (.pointer none) := by rw [h.cell]; rfl
 have hfz : w.frozen? ⟨b, 0, none⟩ = false := h.frozen 0
 clear h
 go_enter Tryd.func37, Tryd.ntmps37
 go_wp2
 rw [Lib.run_to_unsafe w ⟨b, 0, none⟩ Tryd.underlying55 Tryd.underlying82 hj (by rw [hjs]; decide) hsh (Nat.zero_lt_succ 1)]
 simp only [Result.andThen]
 rw [Oper.upon_value]
 go_wp2
 rw [run_callFunc_extern Tryd.func47 (by kernel_rfl) (by kernel_rfl) (by kernel_rfl) (e := Extern.AbiNoEscape.same) (by kernel_rfl)]
 rw [Lib.run_noEscape]
 simp only [Result.andThen]
 rw [Oper.upon_value]
 go_wp2
 rw [Lib.run_from_unsafe w ⟨b, 0, none⟩ Tryd.underlying82 Tryd.underlying55 hj hsh lies_bld]
 simp only [Result.andThen]
 rw [Oper.upon_value]
 go_wp2
 go_end0
 exact ⟨rfl, rfl⟩
set_option maxRecDepth 100000 in
set_option maxHeartbeats 1000000 in
theorem copy_used (b : Nat) (v : Value) (w : World) (h : Blk w b 58 #[.pointer (some ⟨b, 0, none⟩), v]) :
  Calls Tryd.prog 37 #[.pointer (some ⟨b, 0, none⟩)] w fun e w' => e = .returned (.tuple #[]) ∧ w = w' := by
 obtain ⟨j, hj, hjs⟩ := Option.map_eq_some_iff.1 info_bld
 have h0 : w.cell? ⟨b, 0, none⟩ = some (.pointer (some ⟨b, 0, none⟩)) := by rw [h.cell]; rfl
 have hne : ∀ w : World, (binOp .neq 55 (.pointer (some ⟨b, 0, none⟩)) (.pointer (some ⟨b, 0, none⟩))).run Tryd.prog w = .ok (.bool false) w := fun w => Lib.run_neq_ptr_same w ⟨b, 0, none⟩ Tryd.underlying55 hj
 clear h
 go_enter Tryd.func37, Tryd.ntmps37
 go_wp2
 go_end0
 exact ⟨rfl, rfl⟩
theorem copy_any (B b : Nat) (bs : List Value) (w : World) (h : Lib.IsBuilderF 58 5 B b bs w) :
  Calls Tryd.prog 37 #[.pointer (some ⟨b, 0, none⟩)] w (CopyP w B b bs) := by
 rcases h with h | h
 ·obtain ⟨_, v, h2, _⟩ := id h
  refine (copy_fresh b v w h2).mono ?_
  rintro e w' ⟨rfl, rfl⟩
  exact ⟨rfl, h.used _, (Below.refl B w).setCell (p := ⟨b, 0, none⟩) h.1 _, (Lib.OthersKept.refl _ _ w).setCell ⟨b, 0, none⟩ rfl _⟩
 ·obtain ⟨_, v, h2, _⟩ := id h
  refine (copy_used b v w h2).mono ?_
  rintro e w' ⟨rfl, rfl⟩
  exact ⟨rfl, h, Below.refl B _, Lib.OthersKept.refl _ _ _⟩
theorem bld_cells {B b : Nat} {bs : List Value} {v : Value} {w1 w2 w0 : World} (hbk : w1.heap[b]? = some (.cells #[.pointer (some ⟨b, 0, none⟩), v] 58 (0, 0))) (hw : w0 = w1 ∨ ∃ o, w0 = w1.alloc o) (hne : v.ownBlock ≠ some b) (hgrow : w0.grownBy w2 v.ownBlock)
  (hown : w1.ownsRowF B 5 1 v bs.length bs) : w2.heap[b]? = some (.cells #[.pointer (some ⟨b, 0, none⟩), v] 58 (0, 0)) ∧ w1.heap.size ≤ w2.heap.size ∧ w0.ownsRowF B 5 1 v bs.length bs := by
 have hlt : b < w1.heap.size := (Array.getElem?_eq_some_iff.1 hbk).1
 rcases hw with rfl | ⟨o, rfl⟩
 ·exact ⟨(hgrow.block b hlt (fun e => hne e.symm)).trans hbk, hgrow.size, hown⟩
 ·have h1 : w1.heap.size ≤ (w1.alloc o).heap.size := by simp
  exact ⟨(hgrow.block b (Nat.lt_of_lt_of_le hlt h1) (fun e => hne e.symm)).trans ((Lib.alloc_old w1 o b hlt).trans hbk), Nat.le_trans h1 hgrow.size, hown.alloc o⟩
theorem bld_done {B b : Nat} {bs cs : List Value} {v v' : Value} {w w1 w2 w0 : World} (hB : B ≤ b) (hBw : B ≤ w.heap.size) (hb1 : Below B w w1) (hk1 : Lib.OthersKept 5 (some b) w w1)
  (hbk : w1.heap[b]? = some (.cells #[.pointer (some ⟨b, 0, none⟩), v] 58 (0, 0))) (hw : w0 = w1 ∨ ∃ o, w0 = w1.alloc o) (hne : v.ownBlock ≠ some b) (hgrow : w0.grownBy w2 v.ownBlock)
  (hown : w1.ownsRowF B 5 1 v bs.length bs) (hown' : w2.ownsRowF B 5 1 v' (bs ++ cs).length (bs ++ cs)) :
  Lib.IsBuilderF 58 5 B b (bs ++ cs) (w2.setCell ⟨b, 1, none⟩ v') ∧ Below B w (w2.setCell ⟨b, 1, none⟩ v') ∧ Lib.OthersKept 5 (some b) w (w2.setCell ⟨b, 1, none⟩ v') := by
 obtain ⟨h2, _, hown0⟩ := bld_cells hbk hw hne hgrow hown
 have hs := hb1.size
 have hb0 : Below B w w0 := by
  rcases hw with rfl | ⟨o, rfl⟩
  ·exact hb1
  ·exact hb1.alloc (by omega) o
 have hk0 : Lib.OthersKept 5 (some b) w w0 := by
  rcases hw with rfl | ⟨o, rfl⟩
  ·exact hk1
  ·exact hk1.alloc o
 have hs0 := hb0.size
 refine ⟨.inr (Lib.BuilderAtF.put hB h2 hown' (by decide)), (hb0.grown hgrow (by omega) (fun k hk => (hown.lt k hk).1)).setCell (p := ⟨b, 1, none⟩) hB _, (hk0.grown hgrow (Lib.ownsRowF_kind hown0)).setCell ⟨b, 1, none⟩ rfl _⟩
set_option maxHeartbeats 2000000 in
set_option maxRecDepth 100000 in
theorem bstr_any (B b : Nat) (l t : List UInt8) (w : World) (h : Bld w B b l) (hlen : l.length + t.length ≤ 140737488355328) (hBw : B ≤ w.heap.size) :
  Calls Tryd.prog 24 #[.pointer (some ⟨b, 0, none⟩), .string (txt t)] w fun e w' => e = .returned (.tuple #[.int .i64 (t.length : Int), .nilIface]) ∧ BldP w B b (l ++ t) w' := by
 obtain ⟨i0, hi, hz0, hz1, hz2⟩ := info_parts info_b
 have hl : (Lib.byteCells l).length = l.length := Lib.byteCells_length l
 have hmono : (Lib.byteCells (l ++ t)) = Lib.byteCells l ++ Lib.strCells (txt t) := by rw [Lib.byteCells_append]; rfl
 have hsz := txt_size t
 unfold BldP Bld at *
 rw [hmono]
 generalize Lib.byteCells l = bs at h hl ⊢
 rw [← hl, ← hsz] at hlen
 have HS := Lib.hid hsz
 clear hmono hl hsz
 go_enter Tryd.func24, Tryd.ntmps24
 go_wp2_with fail
 refine (copy_any B b bs _ h).mono ?_
 rintro e w1 ⟨rfl, h1, hb1, hk1⟩
 obtain ⟨hB, v, hbk, hown, hne⟩ := h1
 have c0 : w1.cell? ⟨b, 0, none⟩ = some (.pointer (some ⟨b, 0, none⟩)) := by rw [Lib.cell_of_heap hbk]; rfl
 have c1 : w1.cell? ⟨b, 1, none⟩ = some v := by rw [Lib.cell_of_heap hbk]; rfl
 have hs1 := hb1.size
 go_wp2_with (at_builtin; refine Lib.wpList_append_own_stringF _ rfl _ _ 56 9 rfl B 5 i0 Tryd.underlying56 Tryd.underlying9 hi hz0 hz1 hz2 _ _ _ rfl hown (txt t) rfl ?c3 ?c4 ?c5 ?_)
 case c3 => unfold maxLen; omega
 case c4 => omega
 case c5 => omega
 intro v' w2 hown' hgrow _
 obtain ⟨hb2, -, -⟩ := bld_cells hbk (.inl rfl) hne hgrow hown
 have d0 : w2.cell? ⟨b, 0, none⟩ = some (.pointer (some ⟨b, 0, none⟩)) := by rw [Lib.cell_of_heap hb2]; rfl
 have d1 : w2.cell? ⟨b, 1, none⟩ = some v := by rw [Lib.cell_of_heap hb2]; rfl
 have f1 : w2.frozen? ⟨b, 1, none⟩ = false := Lib.frozen_of_heap hb2 1
 obtain ⟨ao, n', cap, rfl⟩ : ∃ ao n' cap, v' = .slice ao n' cap := by
  rcases hown'.2 with ⟨hv, _⟩ | ⟨g, cap, cur, fz, hv, _⟩
  ·exact ⟨_, _, _, hv⟩
  ·exact ⟨_, _, _, hv⟩
 go_wp2
 go_ret2
 exact ⟨by rw [HS.out]; rfl, bld_done hB hBw hb1 hk1 hbk (.inl rfl) hne hgrow hown (by simpa [Lib.strCells_length] using hown')⟩
end Go.Proofs.YtikmilcdibldhaaDoor
namespace Go.Proofs.YtikmilcdibldhaaDoor
open Go.RowKit
theorem nm_in (c : UInt8) : inNm.contains c = nmB c := by
 have h : ∀ n : Fin 256, inNm.contains (UInt8.ofNat n.val) = nmB (UInt8.ofNat n.val) := by decide +kernel
 have h2 := h ⟨c.toNat, c.toNat_lt⟩
 simp only [UInt8.ofNat_toNat] at h2
 exact h2
theorem drop_wl (s : List UInt8) : s.dropWhile nmB = s.drop (wl s) := by
 unfold wl
 induction s with
 | nil => rfl
 | cons c r ih =>
  rw [List.takeWhile_cons, List.dropWhile_cons]
  by_cases h : nmB c = true
  ·rw [if_pos h, if_pos h, List.length_cons, List.drop_succ_cons, ih]
  ·rw [if_neg h, if_neg h]; rfl
theorem take_wl (s : List UInt8) : s.takeWhile nmB = s.take (wl s) := by
 unfold wl
 have h := take_split s
 generalize s.takeWhile nmB = a at h ⊢
 rw [h, List.take_left]
theorem triml_any (s : List UInt8) (w : World) : Calls Tryd.prog 45 #[.string (txt s), .string (txt inNm)] w fun e w' => e = .returned (.string (txt (s.drop (wl s)))) ∧ Below w.heap.size w w' :=
 (Any.strings_TrimLeft_laid sl161 info_set (txt s) (txt inNm) w (by rw [txt_size]; decide) (ascii_of_all (by rw [txt_data]; decide))).mono fun e w' h => ⟨by
  rw [h.1, txt_data, txt_data, ← drop_wl]
  unfold Lib.trimLeftS
  rw [show (fun x => inNm.contains x) = nmB from funext nm_in]
  rfl, h.2⟩
theorem trims_any (s : List UInt8) (k : Nat) (hk : k ≤ s.length) (hs : s.length ≤ 9223372036854775807) (w : World) : Calls Tryd.prog 46 #[.string (txt s), .string (txt (s.drop k))] w fun e w' => e = .returned (.string (txt (s.take k))) ∧ w = w' :=
 (Any.strings_TrimSuffix sl102 (txt s) (txt (s.drop k)) w (by rw [txt_size]; exact hs)).mono fun e w' h => ⟨by
  have e1 : Lib.hasSuffix s (s.drop k) = true := by
   unfold Lib.hasSuffix
   rw [List.isSuffixOf_iff_suffix]
   exact List.drop_suffix k s
  rw [h.1, txt_data, txt_data]
  unfold Lib.trimSuffix
  rw [if_pos e1, List.length_drop, show s.length - (s.length - k) = k by omega]
  rfl, h.2.symm⟩
def cutS (c : UInt8) (s : List UInt8) : List UInt8 := if s.head? = some c then s.tail else s
theorem pre_one (s : List UInt8) (c : UInt8) : Lib.hasPrefix s [c] = decide (s.head? = some c) := by
 unfold Lib.hasPrefix
 cases s with
 | nil => rfl
 | cons d r =>
  by_cases h : c = d
  ·subst h; simp [List.isPrefixOf]
  ·have h2 : ¬ d = c := fun e => h e.symm
   simp [List.isPrefixOf, h, h2]
theorem hasp_any (s : List UInt8) (c : UInt8) (w : World) : Calls Tryd.prog 32 #[.string (txt s), .string (txt [c])] w fun e w' => e = .returned (.bool (decide (s.head? = some c))) ∧ w = w' :=
 (Any.strings_HasPrefix sl99 (txt s) (txt [c]) w).mono fun e w' h => ⟨by rw [h.1, txt_data, txt_data, pre_one], h.2.symm⟩
theorem cutp_any (s : List UInt8) (c : UInt8) (w : World) : Calls Tryd.prog 44 #[.string (txt s), .string (txt [c])] w fun e w' => e = .returned (.tuple #[.string (txt (cutS c s)), .bool (decide (s.head? = some c))]) ∧ w = w' :=
 (Any.strings_CutPrefix sl103 (txt s) (txt [c]) w).mono fun e w' h => ⟨by
  rw [h.1, txt_data, txt_data, pre_one]
  unfold Lib.trimPrefix cutS
  rw [pre_one]
  by_cases h1 : s.head? = some c
  ·rw [if_pos h1, if_pos (decide_eq_true h1)]
   cases s with
   | nil => cases h1
   | cons d r => rfl
  ·rw [if_neg h1, if_neg (by rw [decide_eq_false h1]; decide)]
   rfl, h.2.symm⟩
def RdS (w : World) (g : Nat) (l : List UInt8) : Prop := Blk w g 51 #[.string (txt l)]
def RdP (g : Nat) (l : List UInt8) (v : Value) (w : World) (r : Ending) (w' : World) : Prop := r = .returned v ∧ RdS w' g l ∧ w.grownBy w' (some g)
theorem sign_any (g : Nat) (s : List UInt8) (c : UInt8) (w : World) (h : RdS w g s) : Calls Tryd.prog 33 #[.pointer (some ⟨g, 0, none⟩), .string (txt [c])] w (RdP g (cutS c s) (.bool (decide (s.head? = some c))) w) := by
 have q0 : w.cell? ⟨g, 0, none⟩ = some (.string (txt s)) := by rw [h.cell]; rfl
 have f0 : w.frozen? ⟨g, 0, none⟩ = false := h.frozen 0
 have HC := Lib.hid (cutp_any s c w)
 have HE : Hid (RdS (w.setCell ⟨g, 0, none⟩ (.string (txt (cutS c s)))) g (cutS c s)) := Lib.hid (h.set_ 0 _)
 clear h
 generalize decide (s.head? = some c) = b at HC ⊢
 generalize cutS c s = l at HC HE ⊢
 go_enter Tryd.func33, Tryd.ntmps33
 go_wp2_with fail
 refine HC.out.mono ?_
 rintro r w1 ⟨rfl, rfl⟩
 clear HC
 go_wp2
 go_ret
 exact ⟨rfl, HE.out, gr_set ⟨g, 0, none⟩ _⟩
set_option maxHeartbeats 1000000 in
theorem name_ok (g : Nat) (s : List UInt8) (hs : s.length ≤ 9223372036854775807) (hi : identX (s.take (wl s)) = true) (w : World) (h : RdS w g s) : Calls Tryd.prog 34 #[.pointer (some ⟨g, 0, none⟩)] w (RdP g (s.drop (wl s)) (.tuple #[.string (txt (s.take (wl s))), .int .i64 0]) w) := by
 have q0 : w.cell? ⟨g, 0, none⟩ = some (.string (txt s)) := by rw [h.cell]; rfl
 have hw := wl_le s
 have HT := Lib.hid (triml_any s w)
 have HH := Lib.hid h
 have HL : Hid ((s.take (wl s)).length ≤ 9223372036854775807) := Lib.hid (by rw [List.length_take]; omega)
 have HS : ∀ W, Hid (Calls Tryd.prog 46 #[.string (txt s), .string (txt (s.drop (wl s)))] W fun e w' => e = .returned (.string (txt (s.take (wl s)))) ∧ W = w') := fun W => Lib.hid (trims_any s (wl s) hw hs W)
 have HI : ∀ W, Hid (Calls Tryd.prog 23 #[.string (txt (s.take (wl s)))] W fun e w' => e = .returned (.bool true) ∧ W = w') := fun W => Lib.hid ((ident_any _ HL.out W).mono fun e w' k => ⟨by rw [k.1, hi], k.2⟩)
 clear h hw hi
 generalize s.drop (wl s) = l at HT HS ⊢
 generalize s.take (wl s) = n at HS HI ⊢
 clear HL
 go_enter Tryd.func34, Tryd.ntmps34
 go_wp2_with fail
 refine HT.out.mono ?_
 rintro r w1 ⟨rfl, hB⟩
 have hR1 : RdS w1 g s := HH.out.below hB HH.out.lt
 have q1 : w1.cell? ⟨g, 0, none⟩ = some (.string (txt s)) := by rw [hR1.cell]; rfl
 have f1 : w1.frozen? ⟨g, 0, none⟩ = false := hR1.frozen 0
 have HE : Hid (RdS (w1.setCell ⟨g, 0, none⟩ (.string (txt l))) g l) := Lib.hid (hR1.set_ 0 _)
 have HG : Hid (w.grownBy (w1.setCell ⟨g, 0, none⟩ (.string (txt l))) (some g)) := Lib.hid (gr_trans (gr_of hB (Nat.le_refl _) _) (gr_set ⟨g, 0, none⟩ _))
 clear hR1 hB HT
 go_wp2_with fail
 refine (HS _).out.mono ?_
 rintro r w2 ⟨rfl, rfl⟩
 go_wp2_with fail
 refine (HI _).out.mono ?_
 rintro r w2 ⟨rfl, rfl⟩
 clear HS HI
 go_wp2
 go_ret2
 exact ⟨rfl, HE.out, HG.out⟩
set_option maxHeartbeats 1000000 in
theorem name_bad (g : Nat) (s : List UInt8) (hs : s.length ≤ 9223372036854775807) (hi : identX (s.take (wl s)) = false) (w : World) (h : RdS w g s) : Calls Tryd.prog 34 #[.pointer (some ⟨g, 0, none⟩)] w (RdP g s (.tuple #[.string (txt []), .int .i64 22]) w) := by
 have q0 : w.cell? ⟨g, 0, none⟩ = some (.string (txt s)) := by rw [h.cell]; rfl
 have hw := wl_le s
 have HT := Lib.hid (triml_any s w)
 have HH := Lib.hid h
 have HL : Hid ((s.take (wl s)).length ≤ 9223372036854775807) := Lib.hid (by rw [List.length_take]; omega)
 have HS : ∀ W, Hid (Calls Tryd.prog 46 #[.string (txt s), .string (txt (s.drop (wl s)))] W fun e w' => e = .returned (.string (txt (s.take (wl s)))) ∧ W = w') := fun W => Lib.hid (trims_any s (wl s) hw hs W)
 have HI : ∀ W, Hid (Calls Tryd.prog 23 #[.string (txt (s.take (wl s)))] W fun e w' => e = .returned (.bool false) ∧ W = w') := fun W => Lib.hid ((ident_any _ HL.out W).mono fun e w' k => ⟨by rw [k.1, hi], k.2⟩)
 clear h hw hi
 generalize s.drop (wl s) = l at HT HS
 generalize s.take (wl s) = n at HS HI
 clear HL
 go_enter Tryd.func34, Tryd.ntmps34
 go_wp2_with fail
 refine HT.out.mono ?_
 rintro r w1 ⟨rfl, hB⟩
 have hR1 : RdS w1 g s := HH.out.below hB HH.out.lt
 have q1 : w1.cell? ⟨g, 0, none⟩ = some (.string (txt s)) := by rw [hR1.cell]; rfl
 have HE := Lib.hid hR1
 have HG : Hid (w.grownBy w1 (some g)) := Lib.hid (gr_of hB (Nat.le_refl _) _)
 clear hR1 hB HT
 go_wp2_with fail
 refine (HS _).out.mono ?_
 rintro r w2 ⟨rfl, rfl⟩
 go_wp2_with fail
 refine (HI _).out.mono ?_
 rintro r w2 ⟨rfl, rfl⟩
 clear HS HI
 go_wp2
 go_ret2
 exact ⟨rfl, HE.out, HG.out⟩
end Go.Proofs.YtikmilcdibldhaaDoor
