/- PtvLay PtvBld PtvStr -/
import Derived.Shelf.Small.Wraps
import Derived.Shelf.Strings.SlTrimAscii
import Derived.Shelf.Strings.BuilderK
import Derived.Test.YtleidkpdpabkpaaGreatDoorBM12
set_option linter.unusedSimpArgs false
set_option linter.unusedVariables false
set_option maxRecDepth 100000
set_option maxHeartbeats 8000000
namespace Go.Proofs.YtleidkpdpabkpaaGreatDoor
open Go.RowKit
section
open Go.RowKit Go.Shelf
def renNm : Go.Shelf.Ren := ⟨fun | 99 => 123 | 102 => 131 | 103 => 129 | 119 => 145 | 137 => 144 | 151 => 140 | 152 => 143 | 161 => 130 | 197 => 139 | 206 => 128 | 207 => 141 | 209 => 137 | 210 => 132 | 217 => 148 | 224 => 146 | 225 => 147 | 227 => 134 | 228 => 138 | 231 => 133 | 233 => 135 | 235 => 136 | 260 => 142 | 266 => 149 | n => n, fun | 0 => 0 | 3 => 3 | 4 => 4 | 5 => 5 | 9 => 9 | 21 => 21 | 24 => 180 | 46 => 155 | 105 => 190 | 116 => 185 | 117 => 186 | 119 => 194 | 124 => 189 | 138 => 196 | 139 => 197 | n => n, fun | 3 => 0 | 4 => 1 | n => n⟩
theorem sl99 : Go.Proofs.Lays.n99 Tryz.prog renNm := {
 mixed := by kernel_rfl
 f99 := Tryz.func123.trans (congrArg some (by kernel_rfl))
 f206 := Tryz.func128.trans (congrArg some (by kernel_rfl))
 t3 := Tryz.underlying3
 a3 := Tryz.isAgg3
 z3 := Tryz.sizeOf3
 v3 := Tryz.zeroValue3
 t4 := Tryz.underlying4
 a4 := Tryz.isAgg4
 z4 := Tryz.sizeOf4
 v4 := Tryz.zeroValue4
 t9 := Tryz.underlying9
 a9 := Tryz.isAgg9
 z9 := Tryz.sizeOf9
 v9 := Tryz.zeroValue9 }
theorem sl102 : Go.Proofs.Lays.n102 Tryz.prog renNm := {
 mixed := by kernel_rfl
 f102 := Tryz.func131.trans (congrArg some (by kernel_rfl))
 f207 := Tryz.func141.trans (congrArg some (by kernel_rfl))
 f209 := Tryz.func137.trans (congrArg some (by kernel_rfl))
 t3 := Tryz.underlying3
 a3 := Tryz.isAgg3
 z3 := Tryz.sizeOf3
 v3 := Tryz.zeroValue3
 t4 := Tryz.underlying4
 a4 := Tryz.isAgg4
 z4 := Tryz.sizeOf4
 v4 := Tryz.zeroValue4
 t9 := Tryz.underlying9
 a9 := Tryz.isAgg9
 z9 := Tryz.sizeOf9
 v9 := Tryz.zeroValue9 }
theorem sl103 : Go.Proofs.Lays.n103 Tryz.prog renNm := {
 mixed := by kernel_rfl
 f103 := Tryz.func129.trans (congrArg some (by kernel_rfl))
 f206 := Tryz.func128.trans (congrArg some (by kernel_rfl))
 f210 := Tryz.func132.trans (congrArg some (by kernel_rfl))
 t3 := Tryz.underlying3
 a3 := Tryz.isAgg3
 z3 := Tryz.sizeOf3
 v3 := Tryz.zeroValue3
 t4 := Tryz.underlying4
 a4 := Tryz.isAgg4
 z4 := Tryz.sizeOf4
 v4 := Tryz.zeroValue4
 t9 := Tryz.underlying9
 a9 := Tryz.isAgg9
 z9 := Tryz.sizeOf9
 v9 := Tryz.zeroValue9
 t24 := Tryz.underlying180
 a24 := Tryz.isAgg180
 z24 := Tryz.sizeOf180
 v24 := Tryz.zeroValue180 }
theorem sl161 : Go.Proofs.Lays.n161 Tryz.prog renNm := {
 mixed := by kernel_rfl
 f119 := Tryz.func145.trans (congrArg some (by kernel_rfl))
 f137 := Tryz.func144.trans (congrArg some (by kernel_rfl))
 f151 := Tryz.func140.trans (congrArg some (by kernel_rfl))
 f152 := Tryz.func143.trans (congrArg some (by kernel_rfl))
 f161 := Tryz.func130.trans (congrArg some (by kernel_rfl))
 f197 := Tryz.func139.trans (congrArg some (by kernel_rfl))
 f217 := Tryz.func148.trans (congrArg some (by kernel_rfl))
 f224 := Tryz.func146.trans (congrArg some (by kernel_rfl))
 f225 := Tryz.func147.trans (congrArg some (by kernel_rfl))
 f227 := Tryz.func134.trans (congrArg some (by kernel_rfl))
 f228 := Tryz.func138.trans (congrArg some (by kernel_rfl))
 f231 := Tryz.func133.trans (congrArg some (by kernel_rfl))
 f233 := Tryz.func135.trans (congrArg some (by kernel_rfl))
 f235 := Tryz.func136.trans (congrArg some (by kernel_rfl))
 f260 := Tryz.func142.trans (congrArg some (by kernel_rfl))
 f266 := Tryz.func149.trans (congrArg some (by kernel_rfl))
 t0 := Tryz.underlying0
 a0 := Tryz.isAgg0
 z0 := Tryz.sizeOf0
 v0 := Tryz.zeroValue0
 t3 := Tryz.underlying3
 a3 := Tryz.isAgg3
 z3 := Tryz.sizeOf3
 v3 := Tryz.zeroValue3
 t4 := Tryz.underlying4
 a4 := Tryz.isAgg4
 z4 := Tryz.sizeOf4
 v4 := Tryz.zeroValue4
 t5 := Tryz.underlying5
 a5 := Tryz.isAgg5
 z5 := Tryz.sizeOf5
 v5 := Tryz.zeroValue5
 t9 := Tryz.underlying9
 a9 := Tryz.isAgg9
 z9 := Tryz.sizeOf9
 v9 := Tryz.zeroValue9
 t21 := Tryz.underlying21
 a21 := Tryz.isAgg21
 z21 := Tryz.sizeOf21
 v21 := Tryz.zeroValue21
 t46 := Tryz.underlying155
 a46 := Tryz.isAgg155
 z46 := Tryz.sizeOf155
 v46 := Tryz.zeroValue155
 t105 := Tryz.underlying190
 a105 := Tryz.isAgg190
 z105 := Tryz.sizeOf190
 v105 := Tryz.zeroValue190
 t116 := Tryz.underlying185
 a116 := Tryz.isAgg185
 z116 := Tryz.sizeOf185
 t117 := Tryz.underlying186
 a117 := Tryz.isAgg186
 z117 := Tryz.sizeOf186
 v117 := Tryz.zeroValue186
 t119 := Tryz.underlying194
 a119 := Tryz.isAgg194
 z119 := Tryz.sizeOf194
 t124 := Tryz.underlying189
 a124 := Tryz.isAgg189
 z124 := Tryz.sizeOf189
 v124 := Tryz.zeroValue189
 t138 := Tryz.underlying196
 a138 := Tryz.isAgg196
 z138 := Tryz.sizeOf196
 v138 := Tryz.zeroValue196
 t139 := Tryz.underlying197
 a139 := Tryz.isAgg197
 z139 := Tryz.sizeOf197
 v139 := Tryz.zeroValue197
 g3 := by kernel_rfl
 g4 := by kernel_rfl }
def inNm : List UInt8 := [97, 98, 99, 100, 101, 102, 103, 104, 105, 106, 107, 108, 109, 110, 111, 112, 113, 114, 115, 116, 117, 118, 119, 120, 121, 122, 48, 49, 50, 51, 52, 53, 54, 55, 56, 57, 45]
theorem info_set : (Tryz.prog.info? 185).map (fun i => (i.zero, i.size)) = some (some (.agg (Array.replicate 256 (.bool false))), 256) := by kernel_rfl
end
section
open Go.RowKit Go.Shelf
theorem gr_trans {a b c : World} {row : Option Nat} (h : a.grownBy b row) (k : b.grownBy c row) : a.grownBy c row :=
 ⟨k.os.trans h.os, k.tape.trans h.tape, k.output.trans h.output, Nat.le_trans h.size k.size, fun i hi hr => (k.block i (Nat.lt_of_lt_of_le hi h.size) hr).trans (h.block i hi hr)⟩
theorem gr_of {a b : World} {B : Nat} (h : Below B a b) (hB : a.heap.size ≤ B) (row : Option Nat) : a.grownBy b row :=
 ⟨h.os, h.tape, h.output, h.size, fun i hi _ => h.block i (Nat.lt_of_lt_of_le hi hB)⟩
theorem gr_below {a b c : World} {B : Nat} {row : Option Nat} (h : a.grownBy b row) (k : Below B b c) (hB : a.heap.size ≤ B) : a.grownBy c row :=
 ⟨k.os.trans h.os, k.tape.trans h.tape, k.output.trans h.output, Nat.le_trans h.size k.size, fun i hi hr => (k.block i (Nat.lt_of_lt_of_le hi hB)).trans (h.block i hi hr)⟩
theorem gr_set {w : World} (p : Addr) (u : Value) : w.grownBy (w.setCell p u) (some p.block) :=
 ⟨rfl, rfl, rfl, by simp [World.setCell], fun i _ hr => Below.heap_setCell w p u i (fun e => hr (by rw [e]))⟩
theorem bld_kept {T e : TypeId} {B b g : Nat} {bs : List Value} {w w' : World} (h : Lib.IsBuilderF T e B b bs w) (hg : w.grownBy w' (some g)) (hb : g < B) : Lib.IsBuilderF T e B b bs w' := by
 have k : ∀ p, Lib.BuilderAtF T e B b p bs w → Lib.BuilderAtF T e B b p bs w' := fun p ⟨h1, v, h2, h3, h4⟩ => by
  refine ⟨h1, v, (hg.block b (Array.getElem?_eq_some_iff.1 h2).1 (by simp; omega)).trans h2, h3.kept hg ?_, h4⟩
  cases hv : v.ownBlock with
  | none => exact .inl rfl
  | some k =>
   have := (h3.lt k hv).1
   exact .inr (by simp; omega)
 exact h.elim (fun x => .inl (k _ x)) (fun x => .inr (k _ x))
theorem bld_below {T e : TypeId} {B b : Nat} {bs : List Value} {w w' : World} (h : Lib.IsBuilderF T e B b bs w) (hg : Below w.heap.size w w') : Lib.IsBuilderF T e B b bs w' := by
 have k : ∀ p, Lib.BuilderAtF T e B b p bs w → Lib.BuilderAtF T e B b p bs w' := fun p ⟨h1, v, h2, h3, h4⟩ => by
  have hgr : w.grownBy w' none := gr_of hg (Nat.le_refl _) none
  refine ⟨h1, v, (hg.block b (Array.getElem?_eq_some_iff.1 h2).1).trans h2, h3.kept hgr ?_, h4⟩
  cases hv : v.ownBlock with
  | none => exact .inl rfl
  | some k => exact .inr (by simp)
 exact h.elim (fun x => .inl (k _ x)) (fun x => .inr (k _ x))
def bren : Go.Shelf.Ren := ⟨fun | 169 => 75 | n => n, fun | 0 => 0 | 3 => 3 | 4 => 4 | 5 => 5 | 9 => 9 | 37 => 25 | 70 => 115 | 72 => 117 | 127 => 152 | n => n, fun | n => n⟩
theorem blays169 : Go.Proofs.Lays.n169 Tryz.prog bren := {
 mixed := by kernel_rfl
 f169 := Tryz.func75.trans (congrArg some (by kernel_rfl))
 t0 := Tryz.underlying0
 a0 := Tryz.isAgg0
 z0 := Tryz.sizeOf0
 v0 := Tryz.zeroValue0
 t3 := Tryz.underlying3
 a3 := Tryz.isAgg3
 z3 := Tryz.sizeOf3
 v3 := Tryz.zeroValue3
 t9 := Tryz.underlying9
 a9 := Tryz.isAgg9
 z9 := Tryz.sizeOf9
 v9 := Tryz.zeroValue9
 t37 := Tryz.underlying25
 a37 := Tryz.isAgg25
 z37 := Tryz.sizeOf25
 v37 := Tryz.zeroValue25
 t70 := Tryz.underlying115
 a70 := Tryz.isAgg115
 z70 := Tryz.sizeOf115
 v70 := Tryz.zeroValue115
 t72 := Tryz.underlying117
 a72 := Tryz.isAgg117
 z72 := Tryz.sizeOf117
 v72 := Tryz.zeroValue117
 t127 := Tryz.underlying152
 a127 := Tryz.isAgg152
 z127 := Tryz.sizeOf152
 v127 := Tryz.zeroValue152 }
theorem bextra : Builder.Extra Tryz.prog bren := {
 sizeBuilder := by kernel_rfl
 liesBuilder := by kernel_rfl
 t5 := Tryz.underlying5
 a5 := Tryz.isAgg5
 z5 := Tryz.sizeOf5
 v5 := Tryz.zeroValue5
 infoByte := by kernel_rfl
 cellsByte := by kernel_rfl
 sizeByte := by kernel_rfl
 neB5 := by decide }
def Bld (w : World) (B b : Nat) (l : List UInt8) : Prop := Lib.IsBuilderF 117 5 B b (Lib.byteCells l) w
theorem Bld.fresh (w : World) : Bld (w.alloc (.cells #[.pointer none, .slice none 0 0] 117)) w.heap.size w.heap.size [] := Lib.IsBuilderF.of (Lib.fresh_isBuilder _ _ w)
theorem Bld.kept {w w' : World} {B b g : Nat} {l : List UInt8} (h : Bld w B b l) (hg : w.grownBy w' (some g)) (hb : g < B) : Bld w' B b l := bld_kept h hg hb
theorem Bld.below {w w' : World} {B b : Nat} {l : List UInt8} (h : Bld w B b l) (hg : Below w.heap.size w w') : Bld w' B b l := bld_below h hg
def BldP (w : World) (B b : Nat) (l : List UInt8) (w' : World) : Prop := Bld w' B b l ∧ Below B w w' ∧ Lib.OthersKept 5 (some b) w w'
theorem bstring_any (B b : Nat) (l : List UInt8) (w : World) (h : Bld w B b l) (hBw : B ≤ w.heap.size) :
  Calls Tryz.prog 75 #[.pointer (some ⟨b, 0, none⟩)] w fun e w' => e = .returned (.string (txt l)) ∧ BldP w B b l w' :=
 (Any.Builder_String_any_k blays169 bextra B b l w h hBw).mono fun _ _ ⟨h1, h2, h3, h4⟩ => ⟨h1, h2, h3, h4⟩
theorem info_b : (Tryz.prog.info? 5).map (fun i => (i.zero, i.size, i.bytes)) = some (some (.int .u8 0), 1, 1) := by kernel_rfl
theorem info_bld : (Tryz.prog.info? 117).map (·.size) = some 2 := by kernel_rfl
theorem lies_bld : liesAt Tryz.prog Tryz.prog.depth 117 (2 / Tryz.prog.cellsOf 117) 0 117 1 = true := by kernel_rfl
theorem shape_bld {w : World} {b : Nat} {cs : Array Value} (h : Blk w b 117 cs) (hc : cs.size = 2) : w.shape? b = some (117, 2) := by
 unfold World.shape?
 rw [show w.heap[b]? = some (.cells cs 117 (0, 0)) from h]
 simp [hc]
def CopyP (w : World) (B b : Nat) (bs : List Value) (r : Ending) (w' : World) : Prop :=
 r = .returned (.tuple #[]) ∧ Lib.BuilderAtF 117 5 B b (.pointer (some ⟨b, 0, none⟩)) bs w' ∧ Below B w w' ∧ Lib.OthersKept 5 (some b) w w'
theorem copy_fresh (b : Nat) (v : Value) (w : World) (h : Blk w b 117 #[.pointer none, v]) :
  Calls Tryz.prog 102 #[.pointer (some ⟨b, 0, none⟩)] w fun e w' => e = .returned (.tuple #[]) ∧ w' = w.setCell ⟨b, 0, none⟩ (.pointer (some ⟨b, 0, none⟩)) := by
 obtain ⟨j, hj, hjs⟩ := Option.map_eq_some_iff.1 info_bld
 have hsh := shape_bld h rfl
 have h0 : w.cell? ⟨b, 0, none⟩ = some (.pointer none) := by rw [h.cell]; rfl
 have hfz : w.frozen? ⟨b, 0, none⟩ = false := h.frozen 0
 clear h
 go_enter Tryz.func102, Tryz.ntmps102
 go_wp2
 rw [Lib.run_to_unsafe w ⟨b, 0, none⟩ Tryz.underlying115 Tryz.underlying164 hj (by rw [hjs]; decide) hsh (Nat.zero_lt_succ 1)]
 simp only [Result.andThen]
 rw [Oper.upon_value]
 go_wp2
 rw [run_callFunc_extern Tryz.func114 (by kernel_rfl) (by kernel_rfl) (by kernel_rfl) (e := Extern.AbiNoEscape.same) (by kernel_rfl)]
 rw [Lib.run_noEscape]
 simp only [Result.andThen]
 rw [Oper.upon_value]
 go_wp2
 rw [Lib.run_from_unsafe w ⟨b, 0, none⟩ Tryz.underlying164 Tryz.underlying115 hj hsh lies_bld]
 simp only [Result.andThen]
 rw [Oper.upon_value]
 go_wp2
 go_end0
 exact ⟨rfl, rfl⟩
theorem copy_used (b : Nat) (v : Value) (w : World) (h : Blk w b 117 #[.pointer (some ⟨b, 0, none⟩), v]) :
  Calls Tryz.prog 102 #[.pointer (some ⟨b, 0, none⟩)] w fun e w' => e = .returned (.tuple #[]) ∧ w = w' := by
 obtain ⟨j, hj, hjs⟩ := Option.map_eq_some_iff.1 info_bld
 have h0 : w.cell? ⟨b, 0, none⟩ = some (.pointer (some ⟨b, 0, none⟩)) := by rw [h.cell]; rfl
 have hne : ∀ w : World, (binOp .neq 115 (.pointer (some ⟨b, 0, none⟩)) (.pointer (some ⟨b, 0, none⟩))).run Tryz.prog w = .ok (.bool false) w := fun w => Lib.run_neq_ptr_same w ⟨b, 0, none⟩ Tryz.underlying115 hj
 clear h
 go_enter Tryz.func102, Tryz.ntmps102
 go_wp2
 go_end0
 exact ⟨rfl, rfl⟩
theorem copy_any (B b : Nat) (bs : List Value) (w : World) (h : Lib.IsBuilderF 117 5 B b bs w) :
  Calls Tryz.prog 102 #[.pointer (some ⟨b, 0, none⟩)] w (CopyP w B b bs) := by
 rcases h with h | h
 ·obtain ⟨_, v, h2, _⟩ := id h
  refine (copy_fresh b v w h2).mono ?_
  rintro e w' ⟨rfl, rfl⟩
  exact ⟨rfl, h.used _, (Below.refl B w).setCell (p := ⟨b, 0, none⟩) h.1 _, (Lib.OthersKept.refl _ _ w).setCell ⟨b, 0, none⟩ rfl _⟩
 ·obtain ⟨_, v, h2, _⟩ := id h
  refine (copy_used b v w h2).mono ?_
  rintro e w' ⟨rfl, rfl⟩
  exact ⟨rfl, h, Below.refl B _, Lib.OthersKept.refl _ _ _⟩
theorem bld_cells {B b : Nat} {bs : List Value} {v : Value} {w1 w2 w0 : World} (hbk : w1.heap[b]? = some (.cells #[.pointer (some ⟨b, 0, none⟩), v] 117 (0, 0))) (hw : w0 = w1 ∨ ∃ o, w0 = w1.alloc o) (hne : v.ownBlock ≠ some b) (hgrow : w0.grownBy w2 v.ownBlock)
  (hown : w1.ownsRowF B 5 1 v bs.length bs) : w2.heap[b]? = some (.cells #[.pointer (some ⟨b, 0, none⟩), v] 117 (0, 0)) ∧ w1.heap.size ≤ w2.heap.size ∧ w0.ownsRowF B 5 1 v bs.length bs := by
 have hlt : b < w1.heap.size := (Array.getElem?_eq_some_iff.1 hbk).1
 rcases hw with rfl | ⟨o, rfl⟩
 ·exact ⟨(hgrow.block b hlt (fun e => hne e.symm)).trans hbk, hgrow.size, hown⟩
 ·have h1 : w1.heap.size ≤ (w1.alloc o).heap.size := by simp
  exact ⟨(hgrow.block b (Nat.lt_of_lt_of_le hlt h1) (fun e => hne e.symm)).trans ((Lib.alloc_old w1 o b hlt).trans hbk), Nat.le_trans h1 hgrow.size, hown.alloc o⟩
theorem bld_done {B b : Nat} {bs cs : List Value} {v v' : Value} {w w1 w2 w0 : World} (hB : B ≤ b) (hBw : B ≤ w.heap.size) (hb1 : Below B w w1) (hk1 : Lib.OthersKept 5 (some b) w w1)
  (hbk : w1.heap[b]? = some (.cells #[.pointer (some ⟨b, 0, none⟩), v] 117 (0, 0))) (hw : w0 = w1 ∨ ∃ o, w0 = w1.alloc o) (hne : v.ownBlock ≠ some b) (hgrow : w0.grownBy w2 v.ownBlock)
  (hown : w1.ownsRowF B 5 1 v bs.length bs) (hown' : w2.ownsRowF B 5 1 v' (bs ++ cs).length (bs ++ cs)) :
  Lib.IsBuilderF 117 5 B b (bs ++ cs) (w2.setCell ⟨b, 1, none⟩ v') ∧ Below B w (w2.setCell ⟨b, 1, none⟩ v') ∧ Lib.OthersKept 5 (some b) w (w2.setCell ⟨b, 1, none⟩ v') := by
 obtain ⟨h2, _, hown0⟩ := bld_cells hbk hw hne hgrow hown
 have hs := hb1.size
 have hb0 : Below B w w0 := by
  rcases hw with rfl | ⟨o, rfl⟩
  ·exact hb1
  ·exact hb1.alloc (by omega) o
 have hk0 : Lib.OthersKept 5 (some b) w w0 := by
  rcases hw with rfl | ⟨o, rfl⟩
  ·exact hk1
  ·exact hk1.alloc o
 have hs0 := hb0.size
 refine ⟨.inr (Lib.BuilderAtF.put hB h2 hown' (by decide)), (hb0.grown hgrow (by omega) (fun k hk => (hown.lt k hk).1)).setCell (p := ⟨b, 1, none⟩) hB _, (hk0.grown hgrow (Lib.ownsRowF_kind hown0)).setCell ⟨b, 1, none⟩ rfl _⟩
theorem bstr_any (B b : Nat) (l t : List UInt8) (w : World) (h : Bld w B b l) (hlen : l.length + t.length ≤ 140737488355328) (hBw : B ≤ w.heap.size) :
  Calls Tryz.prog 74 #[.pointer (some ⟨b, 0, none⟩), .string (txt t)] w fun e w' => e = .returned (.tuple #[.int .i64 (t.length : Int), .nilIface]) ∧ BldP w B b (l ++ t) w' := by
 obtain ⟨i0, hi, hz0, hz1, hz2⟩ := info_parts info_b
 have hl : (Lib.byteCells l).length = l.length := Lib.byteCells_length l
 have hmono : (Lib.byteCells (l ++ t)) = Lib.byteCells l ++ Lib.strCells (txt t) := by rw [Lib.byteCells_append]; rfl
 have hsz := txt_size t
 unfold BldP Bld at *
 rw [hmono]
 generalize Lib.byteCells l = bs at h hl ⊢
 rw [← hl, ← hsz] at hlen
 have HS := hHd hsz
 clear hmono hl hsz
 go_enter Tryz.func74, Tryz.ntmps74
 go_wp2_with fail
 refine (copy_any B b bs _ h).mono ?_
 rintro e w1 ⟨rfl, h1, hb1, hk1⟩
 obtain ⟨hB, v, hbk, hown, hne⟩ := h1
 have c0 : w1.cell? ⟨b, 0, none⟩ = some (.pointer (some ⟨b, 0, none⟩)) := by rw [Lib.cell_of_heap hbk]; rfl
 have c1 : w1.cell? ⟨b, 1, none⟩ = some v := by rw [Lib.cell_of_heap hbk]; rfl
 have hs1 := hb1.size
 go_wp2_with (at_builtin; refine Lib.wpList_append_own_stringF _ rfl _ _ 25 9 rfl B 5 i0 Tryz.underlying25 Tryz.underlying9 hi hz0 hz1 hz2 _ _ _ rfl hown (txt t) rfl ?c3 ?c4 ?c5 ?_)
 case c3 => unfold maxLen; omega
 case c4 => omega
 case c5 => omega
 intro v' w2 hown' hgrow _
 obtain ⟨hb2, -, -⟩ := bld_cells hbk (.inl rfl) hne hgrow hown
 have d0 : w2.cell? ⟨b, 0, none⟩ = some (.pointer (some ⟨b, 0, none⟩)) := by rw [Lib.cell_of_heap hb2]; rfl
 have d1 : w2.cell? ⟨b, 1, none⟩ = some v := by rw [Lib.cell_of_heap hb2]; rfl
 have f1 : w2.frozen? ⟨b, 1, none⟩ = false := Lib.frozen_of_heap hb2 1
 obtain ⟨ao, n', cap, rfl⟩ : ∃ ao n' cap, v' = .slice ao n' cap := by
  rcases hown'.2 with ⟨hv, _⟩ | ⟨g, cap, cur, fz, hv, _⟩
  ·exact ⟨_, _, _, hv⟩
  ·exact ⟨_, _, _, hv⟩
 go_wp2
 go_ret2
 exact ⟨by rw [HS.out]; rfl, bld_done hB hBw hb1 hk1 hbk (.inl rfl) hne hgrow hown (by simpa [Lib.strCells_length] using hown')⟩
end
theorem nm_in (c : UInt8) : inNm.contains c = nmB c := by
 have h : ∀ n : Fin 256, inNm.contains (UInt8.ofNat n.val) = nmB (UInt8.ofNat n.val) := by decide +kernel
 have h2 := h ⟨c.toNat, c.toNat_lt⟩
 simp only [UInt8.ofNat_toNat] at h2
 exact h2
theorem drop_wl (s : List UInt8) : s.dropWhile nmB = s.drop (wl s) := by
 unfold wl
 induction s with
 | nil => rfl
 | cons c r ih =>
  rw [List.takeWhile_cons, List.dropWhile_cons]
  by_cases h : nmB c = true
  ·rw [if_pos h, if_pos h, List.length_cons, List.drop_succ_cons, ih]
  ·rw [if_neg h, if_neg h]; rfl
theorem take_wl (s : List UInt8) : s.takeWhile nmB = s.take (wl s) := by
 unfold wl
 have h := take_split s
 generalize s.takeWhile nmB = a at h ⊢
 rw [h, List.take_left]
theorem triml_any (s : List UInt8) (w : World) : Calls Tryz.prog 130 #[.string (txt s), .string (txt inNm)] w fun e w' => e = .returned (.string (txt (s.drop (wl s)))) ∧ Below w.heap.size w w' :=
 (Any.strings_TrimLeft_laid sl161 info_set (txt s) (txt inNm) w (by rw [txt_size]; decide) (ascii_of_all (by rw [txt_data]; decide))).mono fun e w' h => ⟨by
  rw [h.1, txt_data, txt_data, ← drop_wl]
  unfold Lib.trimLeftS
  rw [show (fun x => inNm.contains x) = nmB from funext nm_in]
  rfl, h.2⟩
theorem trims_any (s : List UInt8) (k : Nat) (hk : k ≤ s.length) (hs : s.length ≤ 9223372036854775807) (w : World) : Calls Tryz.prog 131 #[.string (txt s), .string (txt (s.drop k))] w fun e w' => e = .returned (.string (txt (s.take k))) ∧ w = w' :=
 (Any.strings_TrimSuffix sl102 (txt s) (txt (s.drop k)) w (by rw [txt_size]; exact hs)).mono fun e w' h => ⟨by
  have e1 : Lib.hasSuffix s (s.drop k) = true := by
   unfold Lib.hasSuffix
   rw [List.isSuffixOf_iff_suffix]
   exact List.drop_suffix k s
  rw [h.1, txt_data, txt_data]
  unfold Lib.trimSuffix
  rw [if_pos e1, List.length_drop, show s.length - (s.length - k) = k by omega]
  rfl, h.2.symm⟩
def cutS (c : UInt8) (s : List UInt8) : List UInt8 := if s.head? = some c then s.tail else s
theorem pre_one (s : List UInt8) (c : UInt8) : Lib.hasPrefix s [c] = decide (s.head? = some c) := by
 unfold Lib.hasPrefix
 cases s with
 | nil => rfl
 | cons d r =>
  by_cases h : c = d
  ·subst h; simp [List.isPrefixOf]
  ·have h2 : ¬ d = c := fun e => h e.symm
   simp [List.isPrefixOf, h, h2]
theorem hasp_any (s : List UInt8) (c : UInt8) (w : World) : Calls Tryz.prog 123 #[.string (txt s), .string (txt [c])] w fun e w' => e = .returned (.bool (decide (s.head? = some c))) ∧ w = w' :=
 (Any.strings_HasPrefix sl99 (txt s) (txt [c]) w).mono fun e w' h => ⟨by rw [h.1, txt_data, txt_data, pre_one], h.2.symm⟩
theorem cutp_any (s : List UInt8) (c : UInt8) (w : World) : Calls Tryz.prog 129 #[.string (txt s), .string (txt [c])] w fun e w' => e = .returned (.tuple #[.string (txt (cutS c s)), .bool (decide (s.head? = some c))]) ∧ w = w' :=
 (Any.strings_CutPrefix sl103 (txt s) (txt [c]) w).mono fun e w' h => ⟨by
  rw [h.1, txt_data, txt_data, pre_one]
  unfold Lib.trimPrefix cutS
  rw [pre_one]
  by_cases h1 : s.head? = some c
  ·rw [if_pos h1, if_pos (decide_eq_true h1)]
   cases s with
   | nil => cases h1
   | cons d r => rfl
  ·rw [if_neg h1, if_neg (by rw [decide_eq_false h1]; decide)]
   rfl, h.2.symm⟩
def RdS (w : World) (g : Nat) (l : List UInt8) : Prop := Blk w g 169 #[.string (txt l)]
def RdP (g : Nat) (l : List UInt8) (v : Value) (w : World) (r : Ending) (w' : World) : Prop := r = .returned v ∧ RdS w' g l ∧ w.grownBy w' (some g)
theorem sign_any (g : Nat) (s : List UInt8) (c : UInt8) (w : World) (h : RdS w g s) : Calls Tryz.prog 124 #[.pointer (some ⟨g, 0, none⟩), .string (txt [c])] w (RdP g (cutS c s) (.bool (decide (s.head? = some c))) w) := by
 have q0 : w.cell? ⟨g, 0, none⟩ = some (.string (txt s)) := by rw [h.cell]; rfl
 have f0 : w.frozen? ⟨g, 0, none⟩ = false := h.frozen 0
 have HC := hHd (cutp_any s c w)
 have HE : Hid (RdS (w.setCell ⟨g, 0, none⟩ (.string (txt (cutS c s)))) g (cutS c s)) := hHd (h.set_ 0 _)
 clear h
 generalize decide (s.head? = some c) = b at HC ⊢
 generalize cutS c s = l at HC HE ⊢
 go_enter Tryz.func124, Tryz.ntmps124
 go_wp2_with fail
 refine HC.out.mono ?_
 rintro r w1 ⟨rfl, rfl⟩
 clear HC
 go_wp2
 go_ret
 exact ⟨rfl, HE.out, gr_set ⟨g, 0, none⟩ _⟩
theorem name_ok (g : Nat) (s : List UInt8) (hs : s.length ≤ 9223372036854775807) (hi : identX (s.take (wl s)) = true) (w : World) (h : RdS w g s) : Calls Tryz.prog 125 #[.pointer (some ⟨g, 0, none⟩)] w (RdP g (s.drop (wl s)) (.tuple #[.string (txt (s.take (wl s))), .int .i64 0]) w) := by
 have q0 : w.cell? ⟨g, 0, none⟩ = some (.string (txt s)) := by rw [h.cell]; rfl
 have hw := wl_le s
 have HT := hHd (triml_any s w)
 have HH := hHd h
 have HL : Hid ((s.take (wl s)).length ≤ 9223372036854775807) := hHd (by rw [List.length_take]; omega)
 have HS : ∀ W, Hid (Calls Tryz.prog 131 #[.string (txt s), .string (txt (s.drop (wl s)))] W fun e w' => e = .returned (.string (txt (s.take (wl s)))) ∧ W = w') := fun W => hHd (trims_any s (wl s) hw hs W)
 have HI : ∀ W, Hid (Calls Tryz.prog 73 #[.string (txt (s.take (wl s)))] W fun e w' => e = .returned (.bool true) ∧ W = w') := fun W => hHd ((ident_any _ HL.out W).mono fun e w' k => ⟨by rw [k.1, hi], k.2⟩)
 clear h hw hi
 generalize s.drop (wl s) = l at HT HS ⊢
 generalize s.take (wl s) = n at HS HI ⊢
 clear HL
 go_enter Tryz.func125, Tryz.ntmps125
 go_wp2_with fail
 refine HT.out.mono ?_
 rintro r w1 ⟨rfl, hB⟩
 have hR1 : RdS w1 g s := HH.out.below hB HH.out.lt
 have q1 : w1.cell? ⟨g, 0, none⟩ = some (.string (txt s)) := by rw [hR1.cell]; rfl
 have f1 : w1.frozen? ⟨g, 0, none⟩ = false := hR1.frozen 0
 have HE : Hid (RdS (w1.setCell ⟨g, 0, none⟩ (.string (txt l))) g l) := hHd (hR1.set_ 0 _)
 have HG : Hid (w.grownBy (w1.setCell ⟨g, 0, none⟩ (.string (txt l))) (some g)) := hHd (gr_trans (gr_of hB (Nat.le_refl _) _) (gr_set ⟨g, 0, none⟩ _))
 clear hR1 hB HT
 go_wp2_with fail
 refine (HS _).out.mono ?_
 rintro r w2 ⟨rfl, rfl⟩
 go_wp2_with fail
 refine (HI _).out.mono ?_
 rintro r w2 ⟨rfl, rfl⟩
 clear HS HI
 go_wp2
 go_ret2
 exact ⟨rfl, HE.out, HG.out⟩
theorem name_bad (g : Nat) (s : List UInt8) (hs : s.length ≤ 9223372036854775807) (hi : identX (s.take (wl s)) = false) (w : World) (h : RdS w g s) : Calls Tryz.prog 125 #[.pointer (some ⟨g, 0, none⟩)] w (RdP g s (.tuple #[.string (txt []), .int .i64 22]) w) := by
 have q0 : w.cell? ⟨g, 0, none⟩ = some (.string (txt s)) := by rw [h.cell]; rfl
 have hw := wl_le s
 have HT := hHd (triml_any s w)
 have HH := hHd h
 have HL : Hid ((s.take (wl s)).length ≤ 9223372036854775807) := hHd (by rw [List.length_take]; omega)
 have HS : ∀ W, Hid (Calls Tryz.prog 131 #[.string (txt s), .string (txt (s.drop (wl s)))] W fun e w' => e = .returned (.string (txt (s.take (wl s)))) ∧ W = w') := fun W => hHd (trims_any s (wl s) hw hs W)
 have HI : ∀ W, Hid (Calls Tryz.prog 73 #[.string (txt (s.take (wl s)))] W fun e w' => e = .returned (.bool false) ∧ W = w') := fun W => hHd ((ident_any _ HL.out W).mono fun e w' k => ⟨by rw [k.1, hi], k.2⟩)
 clear h hw hi
 generalize s.drop (wl s) = l at HT HS
 generalize s.take (wl s) = n at HS HI
 clear HL
 go_enter Tryz.func125, Tryz.ntmps125
 go_wp2_with fail
 refine HT.out.mono ?_
 rintro r w1 ⟨rfl, hB⟩
 have hR1 : RdS w1 g s := HH.out.below hB HH.out.lt
 have q1 : w1.cell? ⟨g, 0, none⟩ = some (.string (txt s)) := by rw [hR1.cell]; rfl
 have HE := hHd hR1
 have HG : Hid (w.grownBy w1 (some g)) := hHd (gr_of hB (Nat.le_refl _) _)
 clear hR1 hB HT
 go_wp2_with fail
 refine (HS _).out.mono ?_
 rintro r w2 ⟨rfl, rfl⟩
 go_wp2_with fail
 refine (HI _).out.mono ?_
 rintro r w2 ⟨rfl, rfl⟩
 clear HS HI
 go_wp2
 go_ret2
 exact ⟨rfl, HE.out, HG.out⟩
end Go.Proofs.YtleidkpdpabkpaaGreatDoor
