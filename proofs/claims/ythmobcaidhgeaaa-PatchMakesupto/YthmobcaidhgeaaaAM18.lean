/- TrvG -/
import Derived.Test.YthmobcaidhgeaaaAM17
import Derived.Lib.AppendZerosOnto
import Derived.Lib.Overlaps
set_option linter.unusedSimpArgs false
set_option linter.unusedVariables false
set_option maxRecDepth 100000
set_option maxHeartbeats 8000000
namespace Go.Proofs.Ythmobcaidhgeaaa
open Go.RowKit
theorem run_copy_k {P : Program} (w : World) (dT sT ty elem : TypeId) (g o dLen dCap : Nat) (a : Addr) (sLen sCap : Nat) (cur : Array Value) (t : TypeId) (cs : List Value) (n k : Nat)
  (hu : P.underlying dT = some (.slice elem)) (hs : (P.info? elem).map (·.size) = some k)
  (hg : w.heap[g]? = some (.cells cur t (0, 0))) (hn : Nat.min sLen dLen = n) (hl : cs.length = n * k)
  (hsrc : ∀ j v, cs[j]? = some v → w.cell? (a.add j) = some v) (hfit : o + cs.length ≤ cur.size) (h1 : ∀ v ∈ cs, v.oneCell' = true) :
  (Builtin.copy_ #[dT, sT] ty #[.slice (some ⟨g, o, none⟩) dLen dCap, .slice (some a) sLen sCap]).run P w =
   .ok (goInt n) (w.setRow g (cur.toList.take o ++ cs ++ cur.toList.drop (o + cs.length)).toArray) := by
 have hld := run_loadCells_list (P := P) w a cs hsrc
 have hst := run_storeCells_at P g o t cs 0 cur w hg (by simpa using hfit) h1
 rw [hl] at hld
 cases hq : P.info? elem with
 | none => simp [hq] at hs
 | some i =>
  have hi : i.size = k := by simpa [hq] using hs
  simp [Builtin.copy_, run_underlying hu, Builtin.lenOf, Builtin.firstCells, sizeOf, typeInfo, hq, hi, hn, hld, hst]
theorem wp_copy9 {P : Program} (w : World) {o : Oper} {a : Act} {K : Act → World → Prop} {Q : Exit → Act → World → Prop} (d s : Operand) (t t' : TypeId)
  (ho : o.op = .call { callee := .builtin .copy, args := #[d, s], argTypes := #[t, t'] }) (v u : Value) (hd : a.eval d = v) (hs : a.eval s = u) {v' : Value} {w' : World}
  (hr : (Builtin.copy_ #[t, t'] o.type #[v, u]).run P w = .ok v' w') (h : K (a.put o.dst v') w') : o.wp P a w K Q := by
 unfold Oper.wp execOp
 simp only [ho, resolve, invoke, builtin, Sem.run_bind, Sem.run_pure, Result.andThen_ok, List.map_toArray, List.map_cons, List.map_nil, hd, hs, hr]
 exact h
theorem wpList_copy9 {P : Program} (w : World) {ops : Array Oper} {rest : List Oper} {o : Oper} {a : Act} {Q : Exit → Act → World → Prop} (hgd : o.guard = none) (d s : Operand) (t t' : TypeId)
  (ho : o.op = .call { callee := .builtin .copy, args := #[d, s], argTypes := #[t, t'] }) (v u : Value) (hd : a.eval d = v) (hs : a.eval s = u) {v' : Value} {w' : World}
  (hr : (Builtin.copy_ #[t, t'] o.type #[v, u]).run P w = .ok v' w') (h : wpList P ops Q rest (a.put o.dst v') w') : wpList P ops Q (o :: rest) a w :=
 wpList_plain hgd fun _ hK => wp_copy9 w d s t t' ho v u hd hs hr (hK _ _ h)
def spl (l : List Value) (o : Nat) (cs : List Value) : List Value := l.take o ++ cs ++ l.drop (o + cs.length)
theorem spl_len {l cs : List Value} {o : Nat} (h : o + cs.length ≤ l.length) : (spl l o cs).length = l.length := by
 unfold spl
 simp only [List.length_append, List.length_take, List.length_drop]
 omega
theorem spl_take {l cs : List Value} {o : Nat} (h : o ≤ l.length) : (spl l o cs).take (o + cs.length) = l.take o ++ cs := by
 unfold spl
 have h1 : (l.take o ++ cs).length = o + cs.length := by rw [List.length_append, List.length_take]; omega
 rw [← h1, List.take_left]
theorem spl_front {l cs : List Value} {o m : Nat} (h : o ≤ l.length) (hm : m ≤ o) : (spl l o cs).take m = l.take m := by
 unfold spl
 rw [List.append_assoc, List.take_append_of_le_length (by rw [List.length_take]; omega), List.take_take]
 congr 1
 omega
theorem spl_drop {l cs : List Value} {o : Nat} (h : o ≤ l.length) : (spl l o cs).drop o = cs ++ l.drop (o + cs.length) := by
 unfold spl
 have h1 : (l.take o).length = o := by rw [List.length_take]; omega
 have h2 : List.drop (l.take o).length (l.take o ++ (cs ++ l.drop (o + cs.length))) = cs ++ l.drop (o + cs.length) := List.drop_left
 rw [h1] at h2
 rw [List.append_assoc]
 exact h2
theorem spl_two {cur ys : List Value} {o k m : Nat} (hy : ys.length = k) (ho : o ≤ m) (hc : m + k ≤ cur.length) : (spl (spl cur (o + k) ((cur.take m).drop o)) o ys).take (m + k) = cur.take o ++ ys ++ (cur.take m).drop o := by
 have hD : ((cur.take m).drop o).length = m - o := by rw [List.length_drop, List.length_take]; omega
 have h1 : (spl cur (o + k) ((cur.take m).drop o)).length = cur.length := spl_len (by omega)
 have e : m + k = (o + ys.length) + (m - o) := by omega
 have h2 := spl_take (l := spl cur (o + k) ((cur.take m).drop o)) (cs := ys) (o := o) (by omega)
 have h3 : spl (spl cur (o + k) ((cur.take m).drop o)) o ys = ((spl cur (o + k) ((cur.take m).drop o)).take o ++ ys) ++ (spl cur (o + k) ((cur.take m).drop o)).drop (o + ys.length) := rfl
 have h4 : ((spl cur (o + k) ((cur.take m).drop o)).take o ++ ys).length = o + ys.length := by rw [List.length_append, List.length_take]; omega
 rw [h3, e, ← h4, List.take_length_add_append, h4, hy, spl_drop (by omega), spl_front (by omega) (by omega)]
 congr 1
 rw [← hD, List.take_left]
theorem spl_new {A Z ys D : List Value} {o k : Nat} (hA : A.length = o) (hy : ys.length = k) (hZ : k + D.length ≤ Z.length) : (spl (spl (A ++ Z) o ys) (o + k) D).take (o + k + D.length) = A ++ ys ++ D := by
 have h1 : (spl (A ++ Z) o ys).length = (A ++ Z).length := spl_len (by rw [List.length_append]; omega)
 rw [List.length_append] at h1
 rw [spl_take (by omega)]
 congr 1
 rw [show o + k = o + ys.length by omega, spl_take (by rw [List.length_append]; omega), ← hA, List.take_left]
def InsP9 (base : Nat) (v : Value) (n : Nat) (xs : List Value) (w : World) (r : Ending) (w' : World) : Prop :=
 ∃ v', r = .returned v' ∧ OwnK 27 6 w' base v' (n + 1) xs ∧ w.grownBy w' v.ownBlock ∧ (v'.ownBlock = v.ownBlock ∨ ∃ g, v'.ownBlock = some g ∧ w.heap.size ≤ g)
theorem InsP9.app {base n : Nat} {v v' : Value} {xs : List Value} {w w' : World} (h : AppK 27 6 w base v (n + 1) xs v' w') : InsP9 base v n xs w (.returned v') w' :=
 ⟨v', rfl, h.1, h.2.1, by rcases h.2.2.1 with h | h; exact .inl h; exact .inr ⟨_, h, Nat.le_refl _⟩⟩
theorem grown_setRow {w w' : World} {row : Option Nat} {g : Nat} (h : w.grownBy w' row) (hg : some g = row ∨ w.heap.size ≤ g) (cs : Array Value) : w.grownBy (w'.setRow g cs) row :=
 ⟨h.os, h.tape, h.output, by simpa using h.size, fun k hk hne => (setRow_other w' g k cs (fun e => by subst e; rcases hg with e | e; exact hne e; omega)).trans (h.block k hk hne)⟩
theorem zeroC_len (z : Value) (h : z.cells.size = 6) (n : Nat) : (Builtin.zeroCells z.cells n).size = n * 6 := by
 simp [Builtin.zeroCells, h]
theorem zeroN : (Value.agg #[.string ⟨#[]⟩, .string ⟨#[]⟩, .int .i64 0, .int .u64 0, .string ⟨#[]⟩, .slice none 0 0]).cells.size = 6 := rfl
theorem ins_nil (g base : Nat) (ys : List Value) (w : World) (hblk : Blk w g 27 ys.toArray) (hys : ys.length = 6) (hone : ∀ u ∈ ys, u.oneCell' = true) (hb : base ≤ w.heap.size) :
  Calls Try.prog 55 #[.slice none 0 0, .int .i64 0, .slice (some ⟨g, 0, none⟩) 1 1] w (InsP9 base (.slice none 0 0) 0 ys w) := by
 have HG := hHd hblk
 have HY := hHd hys
 have HN := hHd hone
 have HO : Hid (OwnK 27 6 w base (.slice none 0 0) 0 []) := hHd (OwnK.nil _ _ _ _)
 clear hblk hys hone
 go_enter Try.func55, Try.ntmps55
 go_wp2_with (at_builtin; refine wpList_append_k (P := Try.prog) (ts := 25) Try.underlying25 Try.cellsNd zeroN (by omega) rfl _ _ rfl rfl base (.slice none 0 0) 0 [] rfl HO.out g rfl ys HG.out HY.out HN.out (by omega) (by omega) hb ?_; intro v' w' hap)
 go_ret
 exact InsP9.app hap
theorem ins_end (b c n g base : Nat) (xs ys : List Value) (w : World) (hown : OwnK 27 6 w base (.slice (some ⟨b, 0, none⟩) n c) n xs) (hblk : Blk w g 27 ys.toArray) (hys : ys.length = 6) (hone : ∀ u ∈ ys, u.oneCell' = true) (hn : n ≤ 1000000) (hb : base ≤ w.heap.size) :
  Calls Try.prog 55 #[.slice (some ⟨b, 0, none⟩) n c, .int .i64 (n : Int), .slice (some ⟨g, 0, none⟩) 1 1] w (InsP9 base (.slice (some ⟨b, 0, none⟩) n c) n (xs ++ ys) w) := by
 have hnc : n ≤ c := by
  rcases hown.2 with ⟨h, _⟩ | ⟨g', cap, cur, h, _, _, hnc, _⟩
  ·cases h
  ·injection h with _ _ h3; rw [h3]; exact hnc
 have HO := hHd hown
 have HG := hHd hblk
 have HY := hHd hys
 have HN := hHd hone
 have i0 : (0 : Int) ≤ (n : Int) := by omega
 have i1 : (n : Int) ≤ 1000000 := by omega
 clear hown hblk hys hone
 by_cases hcn : c = n
 ·subst hcn
  clear hnc
  go_enter Try.func55, Try.ntmps55
  go_wp2_with (at_builtin; refine wpList_append_k (P := Try.prog) (ts := 25) Try.underlying25 Try.cellsNd zeroN (by omega) rfl _ _ rfl rfl base (.slice (some ⟨b, 0, none⟩) c c) c xs rfl HO.out g rfl ys HG.out HY.out HN.out (by omega) (by omega) hb ?_; intro v' w' hap)
  go_ret
  exact InsP9.app hap
 ·have hlt : n < c := by omega
  clear hcn
  go_enter Try.func55, Try.ntmps55
  go_wp2_with (at_builtin; refine wpList_append_k (P := Try.prog) (ts := 25) Try.underlying25 Try.cellsNd zeroN (by omega) rfl _ _ rfl rfl base (.slice (some ⟨b, 0, none⟩) n c) n xs rfl HO.out g rfl ys HG.out HY.out HN.out (by omega) (by omega) hb ?_; intro v' w' hap)
  go_ret
  exact InsP9.app hap
theorem row_is {w : World} {base b n c : Nat} {xs : List Value} (h : OwnK 27 6 w base (.slice (some ⟨b, 0, none⟩) n c) n xs) : ∃ cur, Blk w b 27 cur ∧ n ≤ c ∧ c ≤ maxLen ∧ cur.size = c * 6 ∧ cur.toList.take (n * 6) = xs ∧ base ≤ b := by
 rcases h.2 with ⟨h, _⟩ | ⟨g', cap, cur, h, h1, h2, h3, h4, h5, h6⟩
 ·cases h
 ·injection h with e1 e2 e3
  injection e1 with e1
  injection e1 with e1
  subst e1 e3
  exact ⟨cur, h2, h3, h4, h5, h6, h1⟩
theorem add_lit9 (g o i : Nat) : (⟨g, o, none⟩ : Addr).add i = ⟨g, o + i, none⟩ := by unfold Addr.add; split <;> simp_all
theorem shape_blk {w : World} {g : Nat} {t : TypeId} {cs : Array Value} (h : Blk w g t cs) : w.shape? g = some (t, cs.size) := by
 unfold Blk at h
 simp [World.shape?, h]
theorem sizeN (w : World) : (Go.sizeOf 27).run Try.prog w = .ok 6 w := by
 have h := Try.cellsNd
 cases hq : Try.prog.info? 27 with
 | none => rw [hq] at h; cases h
 | some i =>
  rw [hq] at h
  simp at h
  simp [Go.sizeOf, typeInfo, hq, h.2.1]
theorem ins_room (b c n i g base : Nat) (xs ys : List Value) (w : World) (hown : OwnK 27 6 w base (.slice (some ⟨b, 0, none⟩) n c) n xs) (hox : ∀ u ∈ xs, u.oneCell' = true) (hblk : Blk w g 27 ys.toArray) (hys : ys.length = 6) (hone : ∀ u ∈ ys, u.oneCell' = true) (hn : n ≤ 1000000) (hb : base ≤ w.heap.size) (hgb : g ≠ b) (hi : i < n) (hroom : n < c) :
  Calls Try.prog 55 #[.slice (some ⟨b, 0, none⟩) n c, .int .i64 (i : Int), .slice (some ⟨g, 0, none⟩) 1 1] w (InsP9 base (.slice (some ⟨b, 0, none⟩) n c) n (xs.take (i * 6) ++ ys ++ xs.drop (i * 6)) w) := by
 obtain ⟨cur, hbk, hnc, hcm, hcs, htk, hbb⟩ := row_is hown
 have hcl : cur.toList.length = c * 6 := by simpa using hcs
 have hD : (xs.drop (i * 6)).length = (n - i) * 6 := by rw [List.length_drop, hown.1]; omega
 have hov : Hid (∀ lb cb, (callFunc 60 #[.slice (some ⟨g, 0, none⟩) 1 1, .slice (some ⟨b, (i + 1) * 6, none⟩) lb cb]).run Try.prog w = .ok (.value (.bool false)) w) := hHd (fun lb cb => by
  rw [run_callFunc_extern Try.func60 (by kernel_rfl) (by kernel_rfl) (by kernel_rfl) (e := Extern.SlicesOverlaps.overlaps #[25, 25] #[4]) (by kernel_rfl),
   Lib.run_overlaps_apart w 25 4 27 Try.underlying25 6 (fun w => sizeN w) ⟨g, 0, none⟩ ⟨b, (i + 1) * 6, none⟩ 1 1 lb cb hgb 27 27 6 (c * 6) (by rw [shape_blk hblk]; simp [hys]) (by rw [shape_blk hbk, hcs]) (by omega) (hblk.frozen 0) (hblk.frozen 6)]
  rfl)
 have hrun1 : Hid (∀ ty, (Builtin.copy_ #[25, 25] ty #[.slice (some ⟨b, (i + 1) * 6, none⟩) (n - i) (c - (i + 1)), .slice (some ⟨b, i * 6, none⟩) (n + 1 - i) (c - i)]).run Try.prog w.drew = .ok (goInt ((n - i : Nat) : Int)) (w.drew.setRow b (spl cur.toList ((i + 1) * 6) (xs.drop (i * 6))).toArray)) := hHd (fun ty =>
  run_copy_k w.drew 25 25 ty 27 b ((i + 1) * 6) (n - i) (c - (i + 1)) ⟨b, i * 6, none⟩ (n + 1 - i) (c - i) cur 27 (xs.drop (i * 6)) (n - i) 6 Try.underlying25 (by kernel_rfl) hbk (by simp only [Nat.min_def]; split <;> omega) hD
   (fun j v hj => by
    rw [add_lit9]
    have hj2 : j < (n - i) * 6 := by rw [← hD]; exact (List.getElem?_eq_some_iff.1 hj).1
    show w.cell? _ = _
    rw [hbk.cell, ← Array.getElem?_toList]
    rw [List.getElem?_drop, ← htk, List.getElem?_take] at hj
    rw [if_pos (by omega)] at hj
    exact hj)
   (by rw [hD, hcs]; omega) (fun v hv => hox v (List.mem_of_mem_drop hv)))
 obtain ⟨W1, hW1⟩ : ∃ W1, W1 = w.drew.setRow b (spl cur.toList ((i + 1) * 6) (xs.drop (i * 6))).toArray := ⟨_, rfl⟩
 have hb1 : Blk W1 b 27 (spl cur.toList ((i + 1) * 6) (xs.drop (i * 6))).toArray := by rw [hW1]; exact setRow_heap w.drew b cur _ 27 (0, 0) hbk
 have hg1 : Blk W1 g 27 ys.toArray := by rw [hW1]; exact (setRow_other w.drew b g _ hgb).trans hblk
 have hl1 : (spl cur.toList ((i + 1) * 6) (xs.drop (i * 6))).length = c * 6 := by rw [spl_len (by rw [hD, hcl]; omega), hcl]
 have hrun2 : Hid (∀ ty, (Builtin.copy_ #[25, 25] ty #[.slice (some ⟨b, i * 6, none⟩) (n + 1 - i) (c - i), .slice (some ⟨g, 0, none⟩) 1 1]).run Try.prog W1 = .ok (goInt ((1 : Nat) : Int)) (W1.setRow b (spl (spl cur.toList ((i + 1) * 6) (xs.drop (i * 6))) (i * 6) ys).toArray)) := hHd (fun ty => by
  have h := run_copy_k W1 25 25 ty 27 b (i * 6) (n + 1 - i) (c - i) ⟨g, 0, none⟩ 1 1 _ 27 ys 1 6 Try.underlying25 (by kernel_rfl) hb1 (by simp only [Nat.min_def]; split <;> omega) (by omega)
   (fun j v hj => by
    rw [add_lit9, hg1.cell, Nat.zero_add]
    simpa using hj)
   (by rw [hys]; simp only [List.size_toArray]; rw [hl1]; omega) hone
  simpa [spl] using h)
 have HP : Hid (InsP9 base (.slice (some ⟨b, 0, none⟩) n c) n (xs.take (i * 6) ++ ys ++ xs.drop (i * 6)) w (.returned (.slice (some ⟨b, 0, none⟩) (n + 1) c)) (W1.setRow b (spl (spl cur.toList ((i + 1) * 6) (xs.drop (i * 6))) (i * 6) ys).toArray)) := hHd (by
  have hgr : w.grownBy W1 (some b) := by
   rw [hW1]
   have h0 : w.grownBy w.drew (some b) := ⟨rfl, rfl, rfl, Nat.le_refl _, fun _ _ _ => rfl⟩
   exact grown_setRow h0 (.inl rfl) _
  refine ⟨_, rfl, ⟨?_, .inr ⟨b, c, _, rfl, hbb, setRow_heap W1 b _ _ 27 (0, 0) hb1, by omega, hcm, ?_, ?_⟩⟩, grown_setRow hgr (.inl rfl) _, .inl rfl⟩
  ·rw [List.length_append, List.length_append, List.length_take, hD, hys, hown.1]; omega
  ·simp only [List.size_toArray]
   rw [spl_len (by rw [hl1]; omega), hl1]
  ·have h := spl_two (cur := cur.toList) (ys := ys) (o := i * 6) (k := 6) (m := n * 6) hys (by omega) (by rw [hcl]; omega)
   rw [htk, show i * 6 + 6 = (i + 1) * 6 by omega, show n * 6 + 6 = (n + 1) * 6 by omega] at h
   rw [show List.take ((n + 1) * 6) (spl (spl cur.toList ((i + 1) * 6) (xs.drop (i * 6))) (i * 6) ys).toArray.toList = _ from h]
   congr 2
   rw [← htk, List.take_take]
   congr 1
   omega)
 rw [← hW1] at hrun1
 have hc47 : (c : Int) ≤ 9223372036854775807 := by unfold maxLen at hcm; omega
 have i0 : (0 : Int) ≤ (i : Int) := by omega
 have i1 : (i : Int) < (n : Int) := by omega
 have i2 : (n : Int) ≤ 1000000 := by omega
 have i3 : (n : Int) < (c : Int) := by omega
 have i4 : ((n : Int) == (i : Int)) = false := by rw [beq_eq_false_iff_ne]; omega
 have i5 : ((i : Int) == (n : Int)) = false := by rw [beq_eq_false_iff_ne]; omega
 have i6 : (i == n) = false := by rw [beq_eq_false_iff_ne]; omega
 have i7 : ¬ (c : Int) < (n : Int) + 1 := by omega
 have i8 : (i : Int) + 1 < (c : Int) := by omega
 have i9 : ¬ c = i + 1 := by omega
 have i10 : ¬ c = i := by omega
 clear hown hox hblk hys hone hbk hcs htk hbb hcl hD hb1 hg1 hl1 hW1 hcm
 obtain ⟨R, hR⟩ : ∃ R, R = xs.take (i * 6) ++ ys ++ xs.drop (i * 6) := ⟨_, rfl⟩
 rw [← hR] at HP ⊢
 clear hR
 go_enter Try.func55, Try.ntmps55
 go_wp2_with fail
 rw [hov.out _ _]
 (try simp only [Result.andThen])
 rw [Oper.upon_value]
 go_wp2_with fail
 have jw : IntKind.i64.wrap ((i : Int) + 1) = (i : Int) + 1 := Go.IntWalk.i64_in _ (by omega)
 have jn : ((i : Int) + 1).toNat = i + 1 := by omega
 have JW := hHd (And.intro jw jn)
 clear jw jn
 refine wp_region_noPanic ?_
 refine wp_region_held_drew (S := fun _ => True) (by kernel_rfl) trivial (fun hS => ?_)
 refine tkH 0 hS ?_
 refine tkH 1 hS ?_
 refine tkH 2 hS ?_
 refine tkH 3 hS ?_ (hy := fun w hSw => by have jw := JW.out.1; (go_simp <;> with_reducible rfl))
 refine tkH 4 hS ?_ (hy := fun w hSw => by have jn := JW.out.2; have k1 : (0 : Int) ≤ (i : Int) + 1 := (by omega); have k2 : i ≤ n := (by omega); (go_simp <;> with_reducible rfl))
 refine tkH 5 hS ?_
 refine tkH 6 hS ?_
 refine tkH 7 hS ?_ (hy := fun w hSw => by have k3 : (i : Int) ≤ (n : Int) + 1 := (by omega); (go_simp <;> with_reducible rfl))
 refine rdy1 8 fun K hK => ?_
 refine wp_copy9 _ (.tmp 73) (.tmp 76) 25 25 rfl _ _ rfl rfl (hrun1.out _) ?_
 refine hK.out _ _ ?sr_0 (fun hS => ?_)
 case sr_0 => (exact hS)
 clear hK K
 (try simp only [Act.put, layS])
 refine wpAnyH_done (by kernel_rfl) ?_ _
 refine NoPanic.normal ?_
 clear hS
 go_wp2_with (with_reducible refine wpList_copy9 _ rfl (.tmp 80) (.tmp 81) 25 25 rfl _ _ rfl rfl (hrun2.out _) ?_)
 go_ret
 exact HP.out
theorem ins_full (b n i g base : Nat) (xs ys : List Value) (w : World) (hown : OwnK 27 6 w base (.slice (some ⟨b, 0, none⟩) n n) n xs) (hox : ∀ u ∈ xs, u.oneCell' = true) (hblk : Blk w g 27 ys.toArray) (hys : ys.length = 6) (hone : ∀ u ∈ ys, u.oneCell' = true) (hn : n ≤ 1000000) (hb : base ≤ w.heap.size) (hi : i < n) :
  Calls Try.prog 55 #[.slice (some ⟨b, 0, none⟩) n n, .int .i64 (i : Int), .slice (some ⟨g, 0, none⟩) 1 1] w (InsP9 base (.slice (some ⟨b, 0, none⟩) n n) n (xs.take (i * 6) ++ ys ++ xs.drop (i * 6)) w) := by
 obtain ⟨cur, hbk, hnc, hcm, hcs, htk, hbb⟩ := row_is hown
 have hxl : xs.length = n * 6 := hown.1
 have hD : (xs.drop (i * 6)).length = (n - i) * 6 := by rw [List.length_drop, hxl]; omega
 have hA : (xs.take (i * 6)).length = i * 6 := by rw [List.length_take, hxl]; omega
 obtain ⟨i0, hi0, hz0, hzs, hzb⟩ := info_parts Try.cellsNd
 have hxc : ∀ j v, xs[j]? = some v → w.cell? ⟨b, j, none⟩ = some v := fun j v hj => by
  rw [hbk.cell, ← Array.getElem?_toList]
  rw [← htk, List.getElem?_take] at hj
  split at hj
  ·exact hj
  ·cases hj
 have hold : (Builtin.firstCells i0.size i (.slice (some ⟨b, 0, none⟩) i n)).run Try.prog w.drew = .ok (xs.take (i * 6)).toArray w.drew := by
  rw [hzs]
  exact run_firstCells_some w.drew 6 i ⟨b, 0, none⟩ i n (xs.take (i * 6)) hA (fun j v hj => by
   rw [add_lit9, Nat.zero_add]
   rw [List.getElem?_take] at hj
   split at hj
   ·exact hxc j v hj
   ·cases hj)
 have hik : i + (n + 1 - i) = n + 1 := by omega
 obtain ⟨G, hG⟩ : ∃ G, G = grownCap w (n + 1) n 27 := ⟨_, rfl⟩
 obtain ⟨z, hz⟩ : ∃ z : Value, z = .agg #[.string ⟨#[]⟩, .string ⟨#[]⟩, .int .i64 0, .int .u64 0, .string ⟨#[]⟩, .slice none 0 0] := ⟨_, rfl⟩
 have hz6 : z.cells.size = 6 := by rw [hz]; rfl
 obtain ⟨Z, hZ⟩ : ∃ Z : List Value, Z = (Builtin.zeroCells z.cells (n + 1 - i)).toList ++ (Builtin.zeroCells z.cells (G - (n + 1))).toList := ⟨_, rfl⟩
 have hGn : n + 1 ≤ G := by rw [hG]; exact grownCap_ge _ _ _ _
 have hGm : G ≤ maxLen := by rw [hG]; exact grownCap_le_maxLen _ _ _ _ (by unfold maxLen; omega)
 have hZl : Z.length = (G - i) * 6 := by
  rw [hZ, List.length_append]
  simp only [Array.length_toList, zeroC_len z hz6]
  omega
 have hrz : Hid (∀ ty, (Builtin.append_ #[25, 3] ty #[.slice (some ⟨b, 0, none⟩) i n, .int .i64 ((n : Int) + 1 - (i : Int))]).run Try.prog w =
   .ok (.slice (some ⟨w.heap.size, 0, none⟩) (n + 1) G) (w.drew.alloc (.cells (xs.take (i * 6) ++ Z).toArray 27))) := hHd (fun ty => by
  have h := Lib.run_append_grow_zeros w 25 3 ty 27 i0 z .i64 .i64 Try.underlying25 Try.underlying3 hi0 (by rw [hz0, hz]) (some ⟨b, 0, none⟩) i n (xs.take (i * 6)) hold (n + 1 - i) (by omega) (by omega) (by omega) (by omega) (by rw [hzb]; omega) (by rw [hzb, hik]; exact growslice_fits (by omega) (by omega))
  rw [hik, ← hG] at h
  rw [show (n : Int) + 1 - (i : Int) = ((n + 1 - i : Nat) : Int) by omega, h, hZ]
  congr 3
  simp)
 obtain ⟨W1, hW1⟩ : ∃ W1, W1 = w.drew.alloc (.cells (xs.take (i * 6) ++ Z).toArray 27) := ⟨_, rfl⟩
 have hb1 : Blk W1 w.heap.size 27 (xs.take (i * 6) ++ Z).toArray := by rw [hW1]; exact Blk.new w.drew _ _
 have hB1 : Below w.heap.size w W1 := by rw [hW1]; exact (Below.refl w.heap.size w).drew.alloc (by simp) _
 have hg1 : Blk W1 g 27 ys.toArray := hblk.below hB1 hblk.lt
 have hl1 : (xs.take (i * 6) ++ Z).length = G * 6 := by rw [List.length_append, hA, hZl]; omega
 have hrun1 : Hid (∀ ty, (Builtin.copy_ #[25, 25] ty #[.slice (some ⟨w.heap.size, i * 6, none⟩) (n + 1 - i) (G - i), .slice (some ⟨g, 0, none⟩) 1 1]).run Try.prog W1 = .ok (goInt ((1 : Nat) : Int)) (W1.setRow w.heap.size (spl (xs.take (i * 6) ++ Z) (i * 6) ys).toArray)) := hHd (fun ty => by
  have h := run_copy_k W1 25 25 ty 27 w.heap.size (i * 6) (n + 1 - i) (G - i) ⟨g, 0, none⟩ 1 1 _ 27 ys 1 6 Try.underlying25 (by kernel_rfl) hb1 (by simp only [Nat.min_def]; split <;> omega) (by omega)
   (fun j v hj => by
    rw [add_lit9, hg1.cell, Nat.zero_add]
    simpa using hj)
   (by rw [hys]; simp only [List.size_toArray]; rw [hl1]; omega) hone
  exact h)
 obtain ⟨W2, hW2⟩ : ∃ W2, W2 = W1.setRow w.heap.size (spl (xs.take (i * 6) ++ Z) (i * 6) ys).toArray := ⟨_, rfl⟩
 have hb2 : Blk W2 w.heap.size 27 (spl (xs.take (i * 6) ++ Z) (i * 6) ys).toArray := by rw [hW2]; exact setRow_heap W1 w.heap.size _ _ 27 (0, 0) hb1
 have hbo : Blk W2 b 27 cur := by rw [hW2]; exact (setRow_other W1 w.heap.size b _ (by have := hbk.lt; omega)).trans (hbk.below hB1 hbk.lt)
 have hl2 : (spl (xs.take (i * 6) ++ Z) (i * 6) ys).length = G * 6 := by rw [spl_len (by rw [hl1, hys]; omega), hl1]
 have hrun2 : Hid (∀ ty, (Builtin.copy_ #[25, 25] ty #[.slice (some ⟨w.heap.size, (i + 1) * 6, none⟩) (n - i) (G - (i + 1)), .slice (some ⟨b, i * 6, none⟩) (n - i) (n - i)]).run Try.prog W2.drew = .ok (goInt ((n - i : Nat) : Int)) (W2.drew.setRow w.heap.size (spl (spl (xs.take (i * 6) ++ Z) (i * 6) ys) ((i + 1) * 6) (xs.drop (i * 6))).toArray)) := hHd (fun ty => by
  have h := run_copy_k W2.drew 25 25 ty 27 w.heap.size ((i + 1) * 6) (n - i) (G - (i + 1)) ⟨b, i * 6, none⟩ (n - i) (n - i) _ 27 (xs.drop (i * 6)) (n - i) 6 Try.underlying25 (by kernel_rfl) hb2 (by simp only [Nat.min_def]; split <;> omega) hD
   (fun j v hj => by
    rw [add_lit9]
    show W2.cell? _ = _
    rw [hbo.cell, ← hbk.cell]
    rw [List.getElem?_drop] at hj
    exact hxc _ v hj)
   (by rw [hD]; simp only [List.size_toArray]; rw [hl2]; omega) (fun v hv => hox v (List.mem_of_mem_drop hv))
  exact h)
 have HP : Hid (InsP9 base (.slice (some ⟨b, 0, none⟩) n n) n (xs.take (i * 6) ++ ys ++ xs.drop (i * 6)) w (.returned (.slice (some ⟨w.heap.size, 0, none⟩) (n + 1) G)) (W2.drew.setRow w.heap.size (spl (spl (xs.take (i * 6) ++ Z) (i * 6) ys) ((i + 1) * 6) (xs.drop (i * 6))).toArray)) := hHd (by
  have g1 : w.grownBy W1 (some b) := ⟨hB1.os, hB1.tape, hB1.output, hB1.size, fun k hk _ => hB1.block k hk⟩
  have g2 : w.grownBy W2 (some b) := by rw [hW2]; exact grown_setRow g1 (.inr (Nat.le_refl _)) _
  have g3 : w.grownBy W2.drew (some b) := ⟨g2.os, g2.tape, g2.output, g2.size, g2.block⟩
  refine ⟨_, rfl, ⟨?_, .inr ⟨w.heap.size, G, _, rfl, hb, setRow_heap W2.drew w.heap.size _ _ 27 (0, 0) hb2, hGn, hGm, ?_, ?_⟩⟩, grown_setRow g3 (.inr (Nat.le_refl _)) _, .inr ⟨_, rfl, Nat.le_refl _⟩⟩
  ·rw [List.length_append, List.length_append, hA, hD, hys]; omega
  ·simp only [List.size_toArray]
   rw [spl_len (by rw [hl2, hD]; omega), hl2]
  ·have h := spl_new (A := xs.take (i * 6)) (Z := Z) (ys := ys) (D := xs.drop (i * 6)) (o := i * 6) (k := 6) hA hys (by rw [hD, hZl]; omega)
   rw [hD, show i * 6 + 6 = (i + 1) * 6 by omega, show (i + 1) * 6 + (n - i) * 6 = (n + 1) * 6 by omega] at h
   exact h)
 rw [← hW1] at hrz
 rw [← hW2] at hrun1
 have hG47 : (G : Int) ≤ 9223372036854775807 := by unfold maxLen at hGm; omega
 have i0 : (0 : Int) ≤ (i : Int) := by omega
 have i1 : (i : Int) < (n : Int) := by omega
 have i2 : (n : Int) ≤ 1000000 := by omega
 have i3 : (n : Int) + 1 ≤ (G : Int) := by omega
 have i4 : ((n : Int) == (i : Int)) = false := by rw [beq_eq_false_iff_ne]; omega
 have i5 : ((i : Int) == (n : Int)) = false := by rw [beq_eq_false_iff_ne]; omega
 have i6 : (i == n) = false := by rw [beq_eq_false_iff_ne]; omega
 have i8 : (i : Int) + 1 < (G : Int) := by omega
 have i9 : ¬ G = i + 1 := by omega
 have i10 : ¬ G = i := by omega
 have i11 : ¬ n = i := by omega
 obtain ⟨R, hR⟩ : ∃ R, R = xs.take (i * 6) ++ ys ++ xs.drop (i * 6) := ⟨_, rfl⟩
 rw [← hR] at HP ⊢
 clear hR hown hox hblk hys hone hbk hcs htk hbb hxl hD hA hi0 hz0 hzs hzb hxc hold hik hG hz hz6 hZ hGm hZl hW1 hb1 hB1 hg1 hl1 hW2 hb2 hbo hl2
 go_enter Try.func55, Try.ntmps55
 go_wp2_with (first | (at_builtin; refine Lib.wpList_append_run _ rfl (.tmp 34) (.tmp 39) 25 3 rfl _ _ rfl rfl _ _ (hrz.out _) ?_) | (with_reducible refine wpList_copy9 _ rfl (.tmp 43) (.tmp 44) 25 25 rfl _ _ rfl rfl (hrun1.out _) ?_))
 have jw : IntKind.i64.wrap ((i : Int) + 1) = (i : Int) + 1 := Go.IntWalk.i64_in _ (by omega)
 have jn : ((i : Int) + 1).toNat = i + 1 := by omega
 have JW := hHd (And.intro jw jn)
 clear jw jn
 refine wp_region_noPanic ?_
 refine wp_region_held_drew (S := fun _ => True) (by kernel_rfl) trivial (fun hS => ?_)
 refine tkH 0 hS ?_
 refine tkH 1 hS ?_
 refine tkH 2 hS ?_
 refine tkH 3 hS ?_ (hy := fun w hSw => by have jw := JW.out.1; (go_simp <;> with_reducible rfl))
 refine tkH 4 hS ?_ (hy := fun w hSw => by have jn := JW.out.2; have k1 : (0 : Int) ≤ (i : Int) + 1 := (by omega); have k2 : i ≤ n := (by omega); (go_simp <;> with_reducible rfl))
 refine tkH 5 hS ?_
 refine tkH 6 hS ?_
 refine tkH 7 hS ?_ (hy := fun w hSw => by have k3 : i ≤ n := (by omega); (go_simp <;> with_reducible rfl))
 refine rdy1 8 fun K hK => ?_
 refine wp_copy9 _ (.tmp 50) (.tmp 53) 25 25 rfl _ _ rfl rfl (hrun2.out _) ?_
 refine hK.out _ _ ?sr_1 (fun hS => ?_)
 case sr_1 => (exact hS)
 clear hK K
 (try simp only [Act.put, layS])
 refine wpAnyH_done (by kernel_rfl) ?_ _
 refine NoPanic.normal ?_
 clear hS
 go_wp2
 go_ret
 exact HP.out
theorem ins_any (v : Value) (n i g base : Nat) (xs ys : List Value) (w : World) (hown : OwnK 27 6 w base v n xs) (hox : ∀ u ∈ xs, u.oneCell' = true) (hblk : Blk w g 27 ys.toArray) (hys : ys.length = 6) (hone : ∀ u ∈ ys, u.oneCell' = true) (hn : n ≤ 1000000) (hb : base ≤ w.heap.size) (hgb : v.ownBlock ≠ some g) (hi : i ≤ n) :
  Calls Try.prog 55 #[v, .int .i64 (i : Int), .slice (some ⟨g, 0, none⟩) 1 1] w (InsP9 base v n (xs.take (i * 6) ++ ys ++ xs.drop (i * 6)) w) := by
 rcases hown.2 with ⟨rfl, rfl⟩ | ⟨b, c, cur, rfl, h1, h2, hnc, h4, h5, h6⟩
 ·obtain rfl : i = 0 := by omega
  have hx : xs = [] := List.eq_nil_of_length_eq_zero (by rw [hown.1])
  subst hx
  have h := ins_nil g base ys w hblk hys hone hb
  simpa using h
 ·by_cases hin : i = n
  ·subst hin
   rw [List.take_of_length_le (by rw [hown.1]; exact Nat.le_refl _), List.drop_of_length_le (by rw [hown.1]; exact Nat.le_refl _), List.append_nil]
   exact ins_end b c i g base xs ys w hown hblk hys hone hn hb
  ·by_cases hc : n = c
   ·subst hc
    exact ins_full b n i g base xs ys w hown hox hblk hys hone hn hb (by omega)
   ·exact ins_room b c n i g base xs ys w hown hox hblk hys hone hn hb (fun e => hgb (by rw [← e]; rfl)) (by omega) (by omega)
end Go.Proofs.Ythmobcaidhgeaaa
