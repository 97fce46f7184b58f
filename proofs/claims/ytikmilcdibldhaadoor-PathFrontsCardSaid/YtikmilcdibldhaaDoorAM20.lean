/- SpvFnB SpvFnD -/
import Derived.Test.YtikmilcdibldhaaDoorAM0
import Derived.Test.YtikmilcdibldhaaDoorAM5
import Derived.Laws.EntriesVeiled
import Derived.Test.YtikmilcdibldhaaDoorAM19
set_option linter.unusedSimpArgs false
set_option linter.unusedVariables false
namespace Go.Proofs.YtikmilcdibldhaaDoor
open Go.RowKit
theorem sfind1_any (n : List UInt8) (p : Nat) (cs : List Value) (x : Sp) (S N : Nat → Prop) (w : World) (hx : SpN w S N cs x) (hp : Blk w p 9 #[.string (txt n)]) :
  Calls Tryd.prog 31 #[.agg cs.toArray, .pointer (some ⟨p, 0, none⟩)] w (fun r w' => r = .returned (.bool (x.1.name == n)) ∧ Below w.heap.size w w') := by
 obtain ⟨B, m, A, c, d, rfl, -, -, hk⟩ := hx.shape
 have hB : Below w.heap.size w (w.alloc (.cells #[.string (txt x.1.name), .int .i64 (x.1.kind : Int), .int .i64 (x.1.typ : Int), .int .u64 (x.1.low : Int), .int .u64 (x.1.high : Int), .slice B x.1.names.length m, .bool x.1.must, .int .i64 (x.1.most : Int), .slice A x.2.len c] 34)) := (Below.refl _ _).alloc (Nat.le_refl _) _
 have HB := Lib.hid hB
 have t1 : (txt n).toList = n := txt_toList n
 have t2 : (txt x.1.name).toList = x.1.name := txt_toList _
 have q0 : (w.alloc (.cells #[.string (txt x.1.name), .int .i64 (x.1.kind : Int), .int .i64 (x.1.typ : Int), .int .u64 (x.1.low : Int), .int .u64 (x.1.high : Int), .slice B x.1.names.length m, .bool x.1.must, .int .i64 (x.1.most : Int), .slice A x.2.len c] 34)).cell? ⟨p, 0, none⟩ = some (.string (txt n)) := by rw [(hp.alloc _).cell]; rfl
 clear hx hB hk hp
 go_enter Tryd.func31, Tryd.ntmps31
 go_wp2
 go_ret
 exact ⟨rfl, HB.out⟩
set_option maxRecDepth 100000 in
set_option maxHeartbeats 2000000 in
theorem index_any (n : List UInt8) (p : Nat) (A : Option Addr) (c : Nat) (f : SpF) (S N : Nat → Prop) (w : World) (hx : FrV SpcD 9 8 w S N (.slice A f.len c) f) (hS : ∀ g, S g → g < w.heap.size) (hN : ∀ g, N g → g < w.heap.size) (hl : f.len ≤ 1000000) (hp : Blk w p 9 #[.string (txt n)]) :
  Calls Tryd.prog 30 #[.slice A f.len c, .func (.func 31) #[] #[.pointer (some ⟨p, 0, none⟩)]] w (AnsP (.int .i64 (findI n f)) w) := by
 have HK := Lib.hid hx
 have HP := Lib.hid hp
 have HpL : Hid (p < w.heap.size) := Lib.hid hp.lt
 clear hx hp
 go_enter Tryd.func30, Tryd.ntmps30
 go_wp2
 go_loopw [8] (fun i wr => ∃ k : Nat, k ≤ f.len ∧ i = .int .i64 (k : Int) ∧ Hid (∀ j y, j < k → f.get? j = some y → y.1.name ≠ n) ∧ Hid (Below w.heap.size w wr)) (fun i _ => f.len - (intOf i).toNat)
 case atStart => exact ⟨0, Nat.zero_le _, rfl, Lib.hid (fun j y h => by omega), Lib.hid (Below.refl _ _)⟩
 case round =>
  obtain ⟨k, hk, rfl, HL, HB⟩ := hrel
  by_cases hlt : k < f.len
  ·obtain ⟨a, q, hg⟩ := Fr.get_some hlt
   have hkr : FrV SpcD 9 8 wr S N (.slice A f.len c) f := HK.out.kept stay_spc (fun g hg => HB.out.block g (hS g hg)) (fun _ h => h) (fun g hg => HB.out.block g (hN g hg)) (fun _ h => h)
   obtain ⟨b, o, c', cs', e, -, hSb, hNk, hcl⟩ := hkr.at hg
   injection e with e1 e2 e3
   subst e1 e3
   have HC := Lib.hid (sfind1_any n p cs' (a, q) S N wr hNk (HP.out.below HB.out HpL.out))
   obtain ⟨B', m', A', c'', d', rfl, -, -, -⟩ := SpN.shape (x := (a, q)) hNk
   have i1 : (0 : Int) ≤ (k : Int) := by omega
   have i2 : (k : Int) < (f.len : Int) := by omega
   have q0 : wr.cell? ⟨b, o + k * 9, none⟩ = some (.string (txt a.name)) := hcl 0 _ rfl
   have q1 : wr.cell? ⟨b, o + k * 9 + 1, none⟩ = some (.int .i64 (a.kind : Int)) := hcl 1 _ rfl
   have q2 : wr.cell? ⟨b, o + k * 9 + 2, none⟩ = some (.int .i64 (a.typ : Int)) := hcl 2 _ rfl
   have q3 : wr.cell? ⟨b, o + k * 9 + 3, none⟩ = some (.int .u64 (a.low : Int)) := hcl 3 _ rfl
   have q4 : wr.cell? ⟨b, o + k * 9 + 4, none⟩ = some (.int .u64 (a.high : Int)) := hcl 4 _ rfl
   have q5 : wr.cell? ⟨b, o + k * 9 + 5, none⟩ = some (.slice B' a.names.length m') := hcl 5 _ rfl
   have q6 : wr.cell? ⟨b, o + k * 9 + 6, none⟩ = some (.bool a.must) := hcl 6 _ rfl
   have q7 : wr.cell? ⟨b, o + k * 9 + 7, none⟩ = some (.int .i64 (a.most : Int)) := hcl 7 _ rfl
   have q8 : wr.cell? ⟨b, o + k * 9 + 8, none⟩ = some (.slice A' q.len c'') := hcl 8 _ rfl
   have HG := Lib.hid hg
   clear hcl hNk hg e2 hSb hkr
   by_cases hn : a.name = n
   ·have HT : Hid ((a.name == n) = true) := Lib.hid (beq_iff_eq.2 hn)
    have HF : Hid (findI n f = (k : Int)) := Lib.hid (by unfold findI; rw [find_is HG.out hn HL.out])
    clear hn
    go_wp2_with fail
    refine HC.out.mono ?_
    rintro r w1 ⟨rfl, hb1⟩
    rw [show ((a, q).1.name == n) = true from HT.out]
    have HB1 : Hid (Below w.heap.size w w1) := Lib.hid (HB.out.trans (hb1.mono HB.out.size))
    clear hb1 q0 q1 q2 q3 q4 q5 q6 q7 q8
    go_wp2
    go_ret
    exact ⟨by rw [HF.out]; rfl, HB1.out⟩
   ·have HT : Hid ((a.name == n) = false) := Lib.hid (beq_eq_false_iff_ne.2 hn)
    have HL2 : Hid (∀ j y, j < k + 1 → f.get? j = some y → y.1.name ≠ n) := Lib.hid (fun j y hj hy => by
     by_cases e : j = k
     ·subst e; rw [HG.out] at hy; injection hy with hy; subst hy; exact hn
     ·exact HL.out j y (by omega) hy)
    clear hn
    go_wp2_with fail
    refine HC.out.mono ?_
    rintro r w1 ⟨rfl, hb1⟩
    rw [show ((a, q).1.name == n) = false from HT.out]
    have HB1 : Hid (Below w.heap.size w w1) := Lib.hid (HB.out.trans (hb1.mono HB.out.size))
    clear hb1 q0 q1 q2 q3 q4 q5 q6 q7 q8
    go_wp2
    go_roundw
    case rel => exact ⟨k + 1, by omega, by go_num, HL2, HB1⟩
    case measure => simp [intOf]; omega
  ·have HF : Hid (findI n f = -1) := Lib.hid (by unfold findI; rw [find_no (fun j y hy => HL.out j y (by have := Fr.get_lt hy; omega) hy)])
   have i2 : ¬ (k : Int) < (f.len : Int) := by omega
   go_wp2
   go_ret
   exact ⟨by rw [HF.out]; rfl, HB.out⟩
set_option maxRecDepth 100000 in
set_option maxHeartbeats 2000000 in
theorem sfind_any (n : List UInt8) (S N : Nat → Prop) (cs : List Value) (x : Sp) (w : World) (hx : SpN w S N cs x) (hS : ∀ g, S g → g < w.heap.size) (hN : ∀ g, N g → g < w.heap.size) (hl : x.2.len ≤ 1000000) :
  Calls Tryd.prog 19 #[.agg cs.toArray, .string (txt n)] w (AnsP (.int .i64 (findI n x.2)) w) := by
 obtain ⟨B, m, A, c, d, rfl, -, -, hk⟩ := hx.shape
 obtain ⟨W, hW⟩ : ∃ W, W = (w.alloc (.cells #[.string (txt x.1.name), .int .i64 (x.1.kind : Int), .int .i64 (x.1.typ : Int), .int .u64 (x.1.low : Int), .int .u64 (x.1.high : Int), .slice B x.1.names.length m, .bool x.1.must, .int .i64 (x.1.most : Int), .slice A x.2.len c] 34)).alloc (.cells #[.string (txt n)] 9) := ⟨_, rfl⟩
 have hB : Below w.heap.size w W := by rw [hW]; exact ((Below.refl _ _).alloc (Nat.le_refl _) _).alloc (by simp) _
 have hk2 : FrV SpcD 9 8 W S N (.slice A x.2.len c) x.2 := hk.kept stay_spc (fun g hg => hB.block g (hS g hg)) (fun _ h => h) (fun g hg => hB.block g (hN g hg)) (fun _ h => h)
 have hp : Blk W (w.heap.size + 1) 9 #[.string (txt n)] := by rw [hW]; have := Blk.new (w.alloc (.cells #[.string (txt x.1.name), .int .i64 (x.1.kind : Int), .int .i64 (x.1.typ : Int), .int .u64 (x.1.low : Int), .int .u64 (x.1.high : Int), .slice B x.1.names.length m, .bool x.1.must, .int .i64 (x.1.most : Int), .slice A x.2.len c] 34)) 9 #[.string (txt n)]; simpa using this
 have hI := index_any n (w.heap.size + 1) A c x.2 S N W hk2 (fun g hg => Nat.lt_of_lt_of_le (hS g hg) hB.size) (fun g hg => Nat.lt_of_lt_of_le (hN g hg) hB.size) hl hp
 rw [hW] at hI
 have HC := Lib.hid hI
 have HB := Lib.hid (hW ▸ hB)
 have HBS : Hid (w.heap.size ≤ W.heap.size) := Lib.hid hB.size
 clear hI hk2 hp hk hx hB
 subst hW
 have hmf : ∀ (fn : Fn) (first cap : Array Value) (w : World), (Instr.makeFunc fn first cap).run Tryd.prog w = .ok (.func fn first cap) w := fun _ _ _ _ => rfl
 go_enter Tryd.func19, Tryd.ntmps19
 go_wp2_with fail
 refine HC.out.mono ?_
 rintro r w1 ⟨rfl, hb1⟩
 have HB1 : Hid (Below w.heap.size w w1) := Lib.hid (HB.out.trans (hb1.mono HBS.out))
 clear hb1
 go_wp2
 go_ret
 exact ⟨rfl, HB1.out⟩
end Go.Proofs.YtikmilcdibldhaaDoor
namespace Go.Proofs.YtikmilcdibldhaaDoor
open Go.RowKit
theorem infoP : (Tryd.prog.info? 34).map (fun i => (i.zero, i.size, i.bytes)) = some (some (.agg #[.string ⟨#[]⟩, .int .i64 0, .int .i64 0, .int .u64 0, .int .u64 0, .slice none 0 0, .bool false, .int .i64 0, .slice none 0 0]), 9, 112) := by kernel_rfl
def InsP (base b c n : Nat) (xs : List Value) (w : World) (r : Ending) (w' : World) : Prop := ∃ v', r = .returned v' ∧ AppK 34 9 w base (.slice (some ⟨b, 0, none⟩) n c) (n + 1) xs v' w'
set_option maxRecDepth 100000 in
set_option maxHeartbeats 2000000 in
theorem sins_any (b c n g base : Nat) (xs ys : List Value) (w : World) (hown : OwnK 34 9 w base (.slice (some ⟨b, 0, none⟩) n c) n xs) (hblk : Blk w g 34 ys.toArray) (hys : ys.length = 9) (hone : ∀ u ∈ ys, u.oneCell' = true) (hn : n ≤ 1000) (hb : base ≤ w.heap.size) :
  Calls Tryd.prog 66 #[.slice (some ⟨b, 0, none⟩) n c, .int .i64 (n : Int), .slice (some ⟨g, 0, none⟩) 1 1] w (InsP base b c n (xs ++ ys) w) := by
 have hnc : n ≤ c := by
  rcases hown.2 with ⟨h, _⟩ | ⟨g', cap, cur, h, _, _, hnc, _⟩
  ·cases h
  ·injection h with _ _ h3; rw [h3]; exact hnc
 have HO := Lib.hid hown
 have HG := Lib.hid hblk
 have HY := Lib.hid hys
 have HN := Lib.hid hone
 have i0 : (0 : Int) ≤ (n : Int) := by omega
 have i1 : (n : Int) ≤ 1000 := by omega
 clear hown hblk hys hone
 by_cases hcn : c = n
 ·subst hcn
  clear hnc
  go_enter Tryd.func66, Tryd.ntmps66
  go_wp2_with (at_builtin; refine wpList_append_k (P := Tryd.prog) (ts := 32) Tryd.underlying32 infoP zeroS (by omega) rfl _ _ rfl rfl base (.slice (some ⟨b, 0, none⟩) c c) c xs rfl HO.out g rfl ys HG.out HY.out HN.out (by omega) (by omega) hb ?_; intro v' w' hap)
  go_ret
  exact ⟨_, rfl, hap⟩
 ·have hlt : n < c := by omega
  clear hcn
  go_enter Tryd.func66, Tryd.ntmps66
  go_wp2_with (at_builtin; refine wpList_append_k (P := Tryd.prog) (ts := 32) Tryd.underlying32 infoP zeroS (by omega) rfl _ _ rfl rfl base (.slice (some ⟨b, 0, none⟩) n c) n xs rfl HO.out g rfl ys HG.out HY.out HN.out (by omega) (by omega) hb ?_; intro v' w' hap)
  go_ret
  exact ⟨_, rfl, hap⟩
set_option maxRecDepth 100000 in
set_option maxHeartbeats 1000000 in
theorem named1_any (n : List UInt8) (base B p : Nat) (R : Nat → Prop) (F : List Nat) (cs : List Value) (x : Sp) (w : World) (h : Sit w base R B F cs x) (hp : Blk w p 9 #[.string (txt n)]) :
  Calls Tryd.prog 67 #[.pointer (some ⟨B, 0, none⟩), .pointer (some ⟨p, 0, none⟩)] w (ChgP base R B F ({ x.1 with name := n }, x.2) w) := by
 have HS := Lib.hid (named_sit n h)
 obtain ⟨nv, kv, d, e, -⟩ : ∃ nv kv, ∃ d : Nat, cs = [.string (txt x.1.name), .int .i64 (x.1.kind : Int), .int .i64 (x.1.typ : Int), .int .u64 (x.1.low : Int), .int .u64 (x.1.high : Int), nv, .bool x.1.must, .int .i64 (x.1.most : Int), kv] ∧ True := by
  obtain ⟨v, _, ⟨nv, kv, d, e, _⟩, _⟩ := h.own
  exact ⟨nv, kv, d, e, trivial⟩
 have q0 : w.cell? ⟨B, 0, none⟩ = some (.string (txt x.1.name)) := by rw [h.box.cell, e]; rfl
 have f0 : w.frozen? ⟨B, 0, none⟩ = false := h.box.frozen 0
 have p0 : w.cell? ⟨p, 0, none⟩ = some (.string (txt n)) := hp.cell 0
 clear h hp e
 go_enter Tryd.func67, Tryd.ntmps67
 go_wp2
 go_end0
 exact ⟨rfl, HS.out⟩
end Go.Proofs.YtikmilcdibldhaaDoor
