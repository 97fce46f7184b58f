/- WayMem VadIns -/
import Derived.Test.YtodlhgflfcadmaaGreatUM10
set_option linter.unusedSimpArgs false
set_option linter.unusedVariables false
set_option maxRecDepth 100000
set_option maxHeartbeats 8000000
namespace Go.Proofs.YtodlhgflfcadmaaGreat
open Go.RowKit
theorem Tryz.cellsSt : (Tryz.prog.info? 125).map (fun i => (i.zero, i.size, i.bytes)) = some (some (.agg #[.string ⟨#[]⟩, .string ⟨#[]⟩]), 2, 32) := by kernel_rfl
theorem szeroN : (Value.agg #[.string ⟨#[]⟩, .string ⟨#[]⟩]).cells.size = 2 := rfl
def stC : List Stp → List Value
 | [] => []
 | s :: l => .string (txt s.1) :: .string (txt s.2) :: stC l
theorem stC_len : ∀ l : List Stp, (stC l).length = l.length * 2
 | [] => rfl
 | s :: l => by simp only [stC, List.length_cons, stC_len l]; omega
theorem stC_one : ∀ (l : List Stp) (u : Value), u ∈ stC l → u.oneCell' = true
 | [], u, h => by cases h
 | s :: l, u, h => by
  simp only [stC, List.mem_cons] at h
  rcases h with rfl | rfl | h
  ·rfl
  ·rfl
  ·exact stC_one l u h
theorem stC_at : ∀ (l : List Stp) (j : Nat) (s : Stp), l[j]? = some s → (stC l)[j * 2]? = some (.string (txt s.1)) ∧ (stC l)[j * 2 + 1]? = some (.string (txt s.2))
 | [], j, s, h => by simp at h
 | t :: l, 0, s, h => by simp at h; subst h; exact ⟨rfl, rfl⟩
 | t :: l, j + 1, s, h => by
  have h1 := stC_at l j s (by simpa using h)
  rw [show (j + 1) * 2 = j * 2 + 1 + 1 by omega]
  simpa [stC] using h1
def OwnS (base : Nat) (w : World) (v : Value) (l : List Stp) : Prop := OwnK 125 2 w base v l.length (stC l)
section
variable {w w' : World} {base : Nat} {v : Value} {l : List Stp}
theorem OwnS.nil (w : World) (base : Nat) : OwnS base w (.slice none 0 0) [] := OwnK.nil _ _ _ _
theorem OwnS.below (h : OwnS base w v l) (hb : Below w.heap.size w w') : OwnS base w' v l := OwnK.below h hb
theorem OwnS.mono {b : Nat} (h : OwnS base w v l) (hb : b ≤ base) : OwnS b w v l := OwnK.mono h hb
theorem OwnS.lt (h : OwnS base w v l) : ∀ b, v.ownBlock = some b → base ≤ b ∧ b < w.heap.size := OwnK.lt h
theorem OwnS.shape (h : OwnS base w v l) : ∃ A c, v = .slice A l.length c := OwnK.shape h
theorem OwnS.way (h : OwnS base w v l) : WayV w.heap.size w v l := by
 obtain ⟨d, ⟨h0, A, c, rfl, h1, h2⟩, _⟩ := OwnK.row h
 refine ⟨A, c, rfl, h1, fun hp => ?_⟩
 obtain ⟨hlt, off, rfl, hc⟩ := h2 hp
 refine ⟨d, off, rfl, hlt, fun j s hs => ?_⟩
 obtain ⟨g1, g2⟩ := stC_at l j s hs
 exact ⟨hc _ _ g1, by have := hc _ _ g2; rwa [← Nat.add_assoc] at this⟩
end
theorem OwnS.one {w : World} (s : Stp) {base : Nat} (hb : base ≤ w.heap.size) : OwnS base (w.alloc (.cells #[.string (txt s.1), .string (txt s.2)] 125)) (.slice (some ⟨w.heap.size, 0, none⟩) 1 1) [s] :=
 ⟨rfl, .inr ⟨w.heap.size, 1, #[.string (txt s.1), .string (txt s.2)], rfl, hb, Blk.new w _ _, Nat.le_refl _, by unfold maxLen; omega, rfl, rfl⟩⟩
theorem OwnS.two {w : World} (s t : Stp) {base : Nat} (hb : base ≤ w.heap.size) : OwnS base (w.alloc (.cells #[.string (txt s.1), .string (txt s.2), .string (txt t.1), .string (txt t.2)] 125)) (.slice (some ⟨w.heap.size, 0, none⟩) 2 2) [s, t] :=
 ⟨rfl, .inr ⟨w.heap.size, 2, #[.string (txt s.1), .string (txt s.2), .string (txt t.1), .string (txt t.2)], rfl, hb, Blk.new w _ _, Nat.le_refl _, by unfold maxLen; omega, rfl, rfl⟩⟩
theorem app_none9 (w : World) (A : Option Addr) (c : Nat) : (Builtin.append_ #[50, 50] 50 #[.slice none 0 0, .slice A 0 c]).run Tryz.prog w = .ok (.slice none 0 0) w := by
 obtain ⟨i, hi, hz0, hz1, hz2⟩ := info_parts Tryz.cellsSt
 cases A with
 | none => simp [Builtin.append_, run_underlying Tryz.underlying50, sizeOf, typeInfo, hi, storeCells, Builtin.lenOf, Builtin.firstCells]
 | some ad =>
  have h := run_firstCells_some (P := Tryz.prog) w i.size 0 ad 0 c [] (by simp) (by simp)
  simp [Builtin.append_, run_underlying Tryz.underlying50, sizeOf, typeInfo, hi, storeCells, Builtin.lenOf, h]
theorem WayV.cells {b : Nat} {w : World} {A : Option Addr} {c : Nat} {l : List Stp} (h : WayV b w (.slice A l.length c) l) (h0 : 0 < l.length) : ∃ ad : Addr, A = some ad ∧ ∀ j u, (stC l)[j]? = some u → w.cell? (ad.add j) = some u := by
 obtain ⟨A', c', e, h1, h2⟩ := h
 injection e with e1 e2 e3
 subst e1 e3
 obtain ⟨g, o, rfl, hg, hc⟩ := h2 h0
 refine ⟨_, rfl, fun j u hu => ?_⟩
 have e1 : (⟨g, o, none⟩ : Addr).add j = ⟨g, o + j, none⟩ := by unfold Addr.add; split <;> simp_all
 rw [e1]
 have hj : j < (stC l).length := (List.getElem?_eq_some_iff.1 hu).1
 rw [stC_len] at hj
 obtain ⟨s, hs⟩ : ∃ s, l[j / 2]? = some s := ⟨_, List.getElem?_eq_getElem (by omega)⟩
 obtain ⟨g1, g2⟩ := stC_at l (j / 2) s hs
 obtain ⟨k1, k2⟩ := hc _ _ hs
 rcases Nat.mod_two_eq_zero_or_one j with h | h
 ·have hj2 : j / 2 * 2 = j := by omega
  rw [hj2] at g1 k1
  rw [hu] at g1
  rw [k1, g1]
 ·have hj2 : j / 2 * 2 + 1 = j := by omega
  rw [hj2] at g2
  rw [hu] at g2
  rw [show o + j = o + j / 2 * 2 + 1 by omega, k2, g2]
theorem app_way (w : World) (v : Value) (l : List Stp) (hv : WayV w.heap.size w v l) (hl : l.length ≤ 1000000) :
  ∃ v' w', (Builtin.append_ #[50, 50] 50 #[.slice none 0 0, v]).run Tryz.prog w = .ok v' w' ∧ OwnS w.heap.size w' v' l ∧ Below w.heap.size w w' := by
 obtain ⟨A, c, rfl⟩ := hv.shape
 by_cases h0 : 0 < l.length
 ·obtain ⟨ad, rfl, hc⟩ := hv.cells h0
  obtain ⟨i, hi, hz0, hz1, hz2⟩ := info_parts Tryz.cellsSt
  obtain ⟨v', w', hr, h2, h3, -, h5⟩ := run_append_own_at (P := Tryz.prog) w w.heap.size 50 50 125 i (.agg #[.string ⟨#[]⟩, .string ⟨#[]⟩]) 2 32 Tryz.underlying50 hi hz0 hz1 hz2 szeroN (by omega) (.slice none 0 0) 0 [] (OwnK.nil _ _ _ _) ad l.length c (stC l) (stC_len l) hc (stC_one l) (by unfold maxLen; omega) (by omega) (Nat.le_refl _)
  rw [Nat.zero_add] at h2
  exact ⟨v', w', hr, h2, ⟨h3.os, h3.tape, h3.output, h3.size, fun k hk => h3.block k hk (by simp [Value.ownBlock])⟩⟩
 ·have e : l = [] := List.eq_nil_of_length_eq_zero (by omega)
  subst e
  exact ⟨_, w, app_none9 w A c, OwnS.nil _ _, Below.refl _ _⟩
theorem stC_app (l m : List Stp) : stC (l ++ m) = stC l ++ stC m := by
 induction l with
 | nil => rfl
 | cons s l ih => simp [stC, ih]
def InsPs (base : Nat) (v : Value) (n : Nat) (xs : List Value) (w : World) (r : Ending) (w' : World) : Prop :=
 ∃ v', r = .returned v' ∧ OwnK 125 2 w' base v' (n + 1) xs ∧ w.grownBy w' v.ownBlock ∧ (v'.ownBlock = v.ownBlock ∨ ∃ g, v'.ownBlock = some g ∧ w.heap.size ≤ g)
theorem InsPs.app {base n : Nat} {v v' : Value} {xs : List Value} {w w' : World} (h : AppK 125 2 w base v (n + 1) xs v' w') : InsPs base v n xs w (.returned v') w' :=
 ⟨v', rfl, h.1, h.2.1, by rcases h.2.2.1 with h | h; exact .inl h; exact .inr ⟨_, h, Nat.le_refl _⟩⟩
theorem sgrown_setRow {w w' : World} {row : Option Nat} {g : Nat} (h : w.grownBy w' row) (hg : some g = row ∨ w.heap.size ≤ g) (cs : Array Value) : w.grownBy (w'.setRow g cs) row :=
 ⟨h.os, h.tape, h.output, by simpa using h.size, fun k hk hne => (setRow_other w' g k cs (fun e => by subst e; rcases hg with e | e; exact hne e; omega)).trans (h.block k hk hne)⟩
theorem szeroC_len (z : Value) (h : z.cells.size = 2) (n : Nat) : (Builtin.zeroCells z.cells n).size = n * 2 := by
 simp [Builtin.zeroCells, h]
theorem sins_nil (g base : Nat) (ys : List Value) (w : World) (hblk : Blk w g 125 ys.toArray) (hys : ys.length = 2) (hone : ∀ u ∈ ys, u.oneCell' = true) (hb : base ≤ w.heap.size) :
  Calls Tryz.prog 107 #[.slice none 0 0, .int .i64 0, .slice (some ⟨g, 0, none⟩) 1 1] w (InsPs base (.slice none 0 0) 0 ys w) := by
 have HG := hHd hblk
 have HY := hHd hys
 have HN := hHd hone
 have HO : Hid (OwnK 125 2 w base (.slice none 0 0) 0 []) := hHd (OwnK.nil _ _ _ _)
 clear hblk hys hone
 go_enter Tryz.func107, Tryz.ntmps107
 go_wp2_with (at_builtin; refine wpList_append_k (P := Tryz.prog) (ts := 50) Tryz.underlying50 Tryz.cellsSt szeroN (by omega) rfl _ _ rfl rfl base (.slice none 0 0) 0 [] rfl HO.out g rfl ys HG.out HY.out HN.out (by omega) (by omega) hb ?_; intro v' w' hap)
 go_ret
 exact InsPs.app hap
theorem sins_end (b c n g base : Nat) (xs ys : List Value) (w : World) (hown : OwnK 125 2 w base (.slice (some ⟨b, 0, none⟩) n c) n xs) (hblk : Blk w g 125 ys.toArray) (hys : ys.length = 2) (hone : ∀ u ∈ ys, u.oneCell' = true) (hn : n ≤ 1000000) (hb : base ≤ w.heap.size) :
  Calls Tryz.prog 107 #[.slice (some ⟨b, 0, none⟩) n c, .int .i64 (n : Int), .slice (some ⟨g, 0, none⟩) 1 1] w (InsPs base (.slice (some ⟨b, 0, none⟩) n c) n (xs ++ ys) w) := by
 have hnc : n ≤ c := by
  rcases hown.2 with ⟨h, _⟩ | ⟨g', cap, cur, h, _, _, hnc, _⟩
  ·cases h
  ·injection h with _ _ h3; rw [h3]; exact hnc
 have HO := hHd hown
 have HG := hHd hblk
 have HY := hHd hys
 have HN := hHd hone
 have i0 : (0 : Int) ≤ (n : Int) := by omega
 have i1 : (n : Int) ≤ 1000000 := by omega
 clear hown hblk hys hone
 by_cases hcn : c = n
 ·subst hcn
  clear hnc
  go_enter Tryz.func107, Tryz.ntmps107
  go_wp2_with (at_builtin; refine wpList_append_k (P := Tryz.prog) (ts := 50) Tryz.underlying50 Tryz.cellsSt szeroN (by omega) rfl _ _ rfl rfl base (.slice (some ⟨b, 0, none⟩) c c) c xs rfl HO.out g rfl ys HG.out HY.out HN.out (by omega) (by omega) hb ?_; intro v' w' hap)
  go_ret
  exact InsPs.app hap
 ·have hlt : n < c := by omega
  clear hcn
  go_enter Tryz.func107, Tryz.ntmps107
  go_wp2_with (at_builtin; refine wpList_append_k (P := Tryz.prog) (ts := 50) Tryz.underlying50 Tryz.cellsSt szeroN (by omega) rfl _ _ rfl rfl base (.slice (some ⟨b, 0, none⟩) n c) n xs rfl HO.out g rfl ys HG.out HY.out HN.out (by omega) (by omega) hb ?_; intro v' w' hap)
  go_ret
  exact InsPs.app hap
theorem srow_is {w : World} {base b n c : Nat} {xs : List Value} (h : OwnK 125 2 w base (.slice (some ⟨b, 0, none⟩) n c) n xs) : ∃ cur, Blk w b 125 cur ∧ n ≤ c ∧ c ≤ maxLen ∧ cur.size = c * 2 ∧ cur.toList.take (n * 2) = xs ∧ base ≤ b := by
 rcases h.2 with ⟨h, _⟩ | ⟨g', cap, cur, h, h1, h2, h3, h4, h5, h6⟩
 ·cases h
 ·injection h with e1 e2 e3
  injection e1 with e1
  injection e1 with e1
  subst e1 e3
  exact ⟨cur, h2, h3, h4, h5, h6, h1⟩
theorem sadd_lit9 (g o i : Nat) : (⟨g, o, none⟩ : Addr).add i = ⟨g, o + i, none⟩ := by unfold Addr.add; split <;> simp_all
theorem sshape_blk {w : World} {g : Nat} {t : TypeId} {cs : Array Value} (h : Blk w g t cs) : w.shape? g = some (t, cs.size) := by
 unfold Blk at h
 simp [World.shape?, h]
theorem ssizeN (w : World) : (Go.sizeOf 125).run Tryz.prog w = .ok 2 w := by
 have h := Tryz.cellsSt
 cases hq : Tryz.prog.info? 125 with
 | none => rw [hq] at h; cases h
 | some i =>
  rw [hq] at h
  simp at h
  simp [Go.sizeOf, typeInfo, hq, h.2.1]
theorem sins_room (b c n i g base : Nat) (xs ys : List Value) (w : World) (hown : OwnK 125 2 w base (.slice (some ⟨b, 0, none⟩) n c) n xs) (hox : ∀ u ∈ xs, u.oneCell' = true) (hblk : Blk w g 125 ys.toArray) (hys : ys.length = 2) (hone : ∀ u ∈ ys, u.oneCell' = true) (hn : n ≤ 1000000) (hb : base ≤ w.heap.size) (hgb : g ≠ b) (hi : i < n) (hroom : n < c) :
  Calls Tryz.prog 107 #[.slice (some ⟨b, 0, none⟩) n c, .int .i64 (i : Int), .slice (some ⟨g, 0, none⟩) 1 1] w (InsPs base (.slice (some ⟨b, 0, none⟩) n c) n (xs.take (i * 2) ++ ys ++ xs.drop (i * 2)) w) := by
 obtain ⟨cur, hbk, hnc, hcm, hcs, htk, hbb⟩ := srow_is hown
 have hcl : cur.toList.length = c * 2 := by simpa using hcs
 have hD : (xs.drop (i * 2)).length = (n - i) * 2 := by rw [List.length_drop, hown.1]; omega
 have hov : Hid (∀ lb cb, (callFunc 118 #[.slice (some ⟨g, 0, none⟩) 1 1, .slice (some ⟨b, (i + 1) * 2, none⟩) lb cb]).run Tryz.prog w = .ok (.value (.bool false)) w) := hHd (fun lb cb => by
  rw [run_callFunc_extern Tryz.func118 (by kernel_rfl) (by kernel_rfl) (by kernel_rfl) (e := Extern.SlicesOverlaps.overlaps #[50, 50] #[4]) (by kernel_rfl),
   Lib.run_overlaps_apart w 50 4 125 Tryz.underlying50 2 (fun w => ssizeN w) ⟨g, 0, none⟩ ⟨b, (i + 1) * 2, none⟩ 1 1 lb cb hgb 125 125 2 (c * 2) (by rw [sshape_blk hblk]; simp [hys]) (by rw [sshape_blk hbk, hcs]) (by omega) (hblk.frozen 0) (hblk.frozen 2)]
  rfl)
 have hrun1 : Hid (∀ ty, (Builtin.copy_ #[50, 50] ty #[.slice (some ⟨b, (i + 1) * 2, none⟩) (n - i) (c - (i + 1)), .slice (some ⟨b, i * 2, none⟩) (n + 1 - i) (c - i)]).run Tryz.prog w.drew = .ok (goInt ((n - i : Nat) : Int)) (w.drew.setRow b (spl cur.toList ((i + 1) * 2) (xs.drop (i * 2))).toArray)) := hHd (fun ty =>
  run_copy_k w.drew 50 50 ty 125 b ((i + 1) * 2) (n - i) (c - (i + 1)) ⟨b, i * 2, none⟩ (n + 1 - i) (c - i) cur 125 (xs.drop (i * 2)) (n - i) 2 Tryz.underlying50 (by kernel_rfl) hbk (by simp only [Nat.min_def]; split <;> omega) hD
   (fun j v hj => by
    rw [sadd_lit9]
    have hj2 : j < (n - i) * 2 := by rw [← hD]; exact (List.getElem?_eq_some_iff.1 hj).1
    show w.cell? _ = _
    rw [hbk.cell, ← Array.getElem?_toList]
    rw [List.getElem?_drop, ← htk, List.getElem?_take] at hj
    rw [if_pos (by omega)] at hj
    exact hj)
   (by rw [hD, hcs]; omega) (fun v hv => hox v (List.mem_of_mem_drop hv)))
 obtain ⟨W1, hW1⟩ : ∃ W1, W1 = w.drew.setRow b (spl cur.toList ((i + 1) * 2) (xs.drop (i * 2))).toArray := ⟨_, rfl⟩
 have hb1 : Blk W1 b 125 (spl cur.toList ((i + 1) * 2) (xs.drop (i * 2))).toArray := by rw [hW1]; exact setRow_heap w.drew b cur _ 125 (0, 0) hbk
 have hg1 : Blk W1 g 125 ys.toArray := by rw [hW1]; exact (setRow_other w.drew b g _ hgb).trans hblk
 have hl1 : (spl cur.toList ((i + 1) * 2) (xs.drop (i * 2))).length = c * 2 := by rw [spl_len (by rw [hD, hcl]; omega), hcl]
 have hrun2 : Hid (∀ ty, (Builtin.copy_ #[50, 50] ty #[.slice (some ⟨b, i * 2, none⟩) (n + 1 - i) (c - i), .slice (some ⟨g, 0, none⟩) 1 1]).run Tryz.prog W1 = .ok (goInt ((1 : Nat) : Int)) (W1.setRow b (spl (spl cur.toList ((i + 1) * 2) (xs.drop (i * 2))) (i * 2) ys).toArray)) := hHd (fun ty => by
  have h := run_copy_k W1 50 50 ty 125 b (i * 2) (n + 1 - i) (c - i) ⟨g, 0, none⟩ 1 1 _ 125 ys 1 2 Tryz.underlying50 (by kernel_rfl) hb1 (by simp only [Nat.min_def]; split <;> omega) (by omega)
   (fun j v hj => by
    rw [sadd_lit9, hg1.cell, Nat.zero_add]
    simpa using hj)
   (by rw [hys]; simp only [List.size_toArray]; rw [hl1]; omega) hone
  simpa [spl] using h)
 have HP : Hid (InsPs base (.slice (some ⟨b, 0, none⟩) n c) n (xs.take (i * 2) ++ ys ++ xs.drop (i * 2)) w (.returned (.slice (some ⟨b, 0, none⟩) (n + 1) c)) (W1.setRow b (spl (spl cur.toList ((i + 1) * 2) (xs.drop (i * 2))) (i * 2) ys).toArray)) := hHd (by
  have hgr : w.grownBy W1 (some b) := by
   rw [hW1]
   have h0 : w.grownBy w.drew (some b) := ⟨rfl, rfl, rfl, Nat.le_refl _, fun _ _ _ => rfl⟩
   exact sgrown_setRow h0 (.inl rfl) _
  refine ⟨_, rfl, ⟨?_, .inr ⟨b, c, _, rfl, hbb, setRow_heap W1 b _ _ 125 (0, 0) hb1, by omega, hcm, ?_, ?_⟩⟩, sgrown_setRow hgr (.inl rfl) _, .inl rfl⟩
  ·rw [List.length_append, List.length_append, List.length_take, hD, hys, hown.1]; omega
  ·simp only [List.size_toArray]
   rw [spl_len (by rw [hl1]; omega), hl1]
  ·have h := spl_two (cur := cur.toList) (ys := ys) (o := i * 2) (k := 2) (m := n * 2) hys (by omega) (by rw [hcl]; omega)
   rw [htk, show i * 2 + 2 = (i + 1) * 2 by omega, show n * 2 + 2 = (n + 1) * 2 by omega] at h
   rw [show List.take ((n + 1) * 2) (spl (spl cur.toList ((i + 1) * 2) (xs.drop (i * 2))) (i * 2) ys).toArray.toList = _ from h]
   congr 2
   rw [← htk, List.take_take]
   congr 1
   omega)
 rw [← hW1] at hrun1
 have hc47 : (c : Int) ≤ 9223372036854775807 := by unfold maxLen at hcm; omega
 have i0 : (0 : Int) ≤ (i : Int) := by omega
 have i1 : (i : Int) < (n : Int) := by omega
 have i2 : (n : Int) ≤ 1000000 := by omega
 have i3 : (n : Int) < (c : Int) := by omega
 have i4 : ((n : Int) == (i : Int)) = false := by rw [beq_eq_false_iff_ne]; omega
 have i5 : ((i : Int) == (n : Int)) = false := by rw [beq_eq_false_iff_ne]; omega
 have i6 : (i == n) = false := by rw [beq_eq_false_iff_ne]; omega
 have i7 : ¬ (c : Int) < (n : Int) + 1 := by omega
 have i8 : (i : Int) + 1 < (c : Int) := by omega
 have i9 : ¬ c = i + 1 := by omega
 have i10 : ¬ c = i := by omega
 clear hown hox hblk hys hone hbk hcs htk hbb hcl hD hb1 hg1 hl1 hW1 hcm
 obtain ⟨R, hR⟩ : ∃ R, R = xs.take (i * 2) ++ ys ++ xs.drop (i * 2) := ⟨_, rfl⟩
 rw [← hR] at HP ⊢
 clear hR
 go_enter Tryz.func107, Tryz.ntmps107
 go_wp2_with fail
 rw [hov.out _ _]
 (try simp only [Result.andThen])
 rw [Oper.upon_value]
 go_wp2_with fail
 have jw : IntKind.i64.wrap ((i : Int) + 1) = (i : Int) + 1 := Go.IntWalk.i64_in _ (by omega)
 have jn : ((i : Int) + 1).toNat = i + 1 := by omega
 have JW := hHd (And.intro jw jn)
 clear jw jn
 refine wp_region_noPanic ?_
 refine wp_region_held_drew (S := fun _ => True) (by kernel_rfl) trivial (fun hS => ?_)
 refine tkH 0 hS ?_
 refine tkH 1 hS ?_
 refine tkH 2 hS ?_
 refine tkH 3 hS ?_ (hy := fun w hSw => by have jw := JW.out.1; (go_simp <;> with_reducible rfl))
 refine tkH 4 hS ?_ (hy := fun w hSw => by have jn := JW.out.2; have k1 : (0 : Int) ≤ (i : Int) + 1 := (by omega); have k2 : i ≤ n := (by omega); (go_simp <;> with_reducible rfl))
 refine tkH 5 hS ?_
 refine tkH 6 hS ?_
 refine tkH 7 hS ?_ (hy := fun w hSw => by have k3 : (i : Int) ≤ (n : Int) + 1 := (by omega); (go_simp <;> with_reducible rfl))
 refine rdy1 8 fun K hK => ?_
 refine wp_copy9 _ (.tmp 73) (.tmp 76) 50 50 rfl _ _ rfl rfl (hrun1.out _) ?_
 refine hK.out _ _ ?sr_0 (fun hS => ?_)
 case sr_0 => (exact hS)
 clear hK K
 (try simp only [Act.put, layS])
 refine wpAnyH_done (by kernel_rfl) ?_ _
 refine NoPanic.normal ?_
 clear hS
 go_wp2_with (with_reducible refine wpList_copy9 _ rfl (.tmp 80) (.tmp 81) 50 50 rfl _ _ rfl rfl (hrun2.out _) ?_)
 go_ret
 exact HP.out
theorem sins_full (b n i g base : Nat) (xs ys : List Value) (w : World) (hown : OwnK 125 2 w base (.slice (some ⟨b, 0, none⟩) n n) n xs) (hox : ∀ u ∈ xs, u.oneCell' = true) (hblk : Blk w g 125 ys.toArray) (hys : ys.length = 2) (hone : ∀ u ∈ ys, u.oneCell' = true) (hn : n ≤ 1000000) (hb : base ≤ w.heap.size) (hi : i < n) :
  Calls Tryz.prog 107 #[.slice (some ⟨b, 0, none⟩) n n, .int .i64 (i : Int), .slice (some ⟨g, 0, none⟩) 1 1] w (InsPs base (.slice (some ⟨b, 0, none⟩) n n) n (xs.take (i * 2) ++ ys ++ xs.drop (i * 2)) w) := by
 obtain ⟨cur, hbk, hnc, hcm, hcs, htk, hbb⟩ := srow_is hown
 have hxl : xs.length = n * 2 := hown.1
 have hD : (xs.drop (i * 2)).length = (n - i) * 2 := by rw [List.length_drop, hxl]; omega
 have hA : (xs.take (i * 2)).length = i * 2 := by rw [List.length_take, hxl]; omega
 obtain ⟨i0, hi0, hz0, hzs, hzb⟩ := info_parts Tryz.cellsSt
 have hxc : ∀ j v, xs[j]? = some v → w.cell? ⟨b, j, none⟩ = some v := fun j v hj => by
  rw [hbk.cell, ← Array.getElem?_toList]
  rw [← htk, List.getElem?_take] at hj
  split at hj
  ·exact hj
  ·cases hj
 have hold : (Builtin.firstCells i0.size i (.slice (some ⟨b, 0, none⟩) i n)).run Tryz.prog w.drew = .ok (xs.take (i * 2)).toArray w.drew := by
  rw [hzs]
  exact run_firstCells_some w.drew 2 i ⟨b, 0, none⟩ i n (xs.take (i * 2)) hA (fun j v hj => by
   rw [sadd_lit9, Nat.zero_add]
   rw [List.getElem?_take] at hj
   split at hj
   ·exact hxc j v hj
   ·cases hj)
 have hik : i + (n + 1 - i) = n + 1 := by omega
 obtain ⟨G, hG⟩ : ∃ G, G = grownCap w (n + 1) n 125 := ⟨_, rfl⟩
 obtain ⟨z, hz⟩ : ∃ z : Value, z = .agg #[.string ⟨#[]⟩, .string ⟨#[]⟩] := ⟨_, rfl⟩
 have hz6 : z.cells.size = 2 := by rw [hz]; rfl
 obtain ⟨Z, hZ⟩ : ∃ Z : List Value, Z = (Builtin.zeroCells z.cells (n + 1 - i)).toList ++ (Builtin.zeroCells z.cells (G - (n + 1))).toList := ⟨_, rfl⟩
 have hGn : n + 1 ≤ G := by rw [hG]; exact grownCap_ge _ _ _ _
 have hGm : G ≤ maxLen := by rw [hG]; exact grownCap_le_maxLen _ _ _ _ (by unfold maxLen; omega)
 have hZl : Z.length = (G - i) * 2 := by
  rw [hZ, List.length_append]
  simp only [Array.length_toList, szeroC_len z hz6]
  omega
 have hrz : Hid (∀ ty, (Builtin.append_ #[50, 3] ty #[.slice (some ⟨b, 0, none⟩) i n, .int .i64 ((n : Int) + 1 - (i : Int))]).run Tryz.prog w =
   .ok (.slice (some ⟨w.heap.size, 0, none⟩) (n + 1) G) (w.drew.alloc (.cells (xs.take (i * 2) ++ Z).toArray 125))) := hHd (fun ty => by
  have h := Lib.run_append_grow_zeros w 50 3 ty 125 i0 z .i64 .i64 Tryz.underlying50 Tryz.underlying3 hi0 (by rw [hz0, hz]) (some ⟨b, 0, none⟩) i n (xs.take (i * 2)) hold (n + 1 - i) (by omega) (by omega) (by omega) (by omega) (by rw [hzb]; omega) (by rw [hzb, hik]; exact growslice_fits (by omega) (by omega))
  rw [hik, ← hG] at h
  rw [show (n : Int) + 1 - (i : Int) = ((n + 1 - i : Nat) : Int) by omega, h, hZ]
  congr 3
  simp)
 obtain ⟨W1, hW1⟩ : ∃ W1, W1 = w.drew.alloc (.cells (xs.take (i * 2) ++ Z).toArray 125) := ⟨_, rfl⟩
 have hb1 : Blk W1 w.heap.size 125 (xs.take (i * 2) ++ Z).toArray := by rw [hW1]; exact Blk.new w.drew _ _
 have hB1 : Below w.heap.size w W1 := by rw [hW1]; exact (Below.refl w.heap.size w).drew.alloc (by simp) _
 have hg1 : Blk W1 g 125 ys.toArray := hblk.below hB1 hblk.lt
 have hl1 : (xs.take (i * 2) ++ Z).length = G * 2 := by rw [List.length_append, hA, hZl]; omega
 have hrun1 : Hid (∀ ty, (Builtin.copy_ #[50, 50] ty #[.slice (some ⟨w.heap.size, i * 2, none⟩) (n + 1 - i) (G - i), .slice (some ⟨g, 0, none⟩) 1 1]).run Tryz.prog W1 = .ok (goInt ((1 : Nat) : Int)) (W1.setRow w.heap.size (spl (xs.take (i * 2) ++ Z) (i * 2) ys).toArray)) := hHd (fun ty => by
  have h := run_copy_k W1 50 50 ty 125 w.heap.size (i * 2) (n + 1 - i) (G - i) ⟨g, 0, none⟩ 1 1 _ 125 ys 1 2 Tryz.underlying50 (by kernel_rfl) hb1 (by simp only [Nat.min_def]; split <;> omega) (by omega)
   (fun j v hj => by
    rw [sadd_lit9, hg1.cell, Nat.zero_add]
    simpa using hj)
   (by rw [hys]; simp only [List.size_toArray]; rw [hl1]; omega) hone
  exact h)
 obtain ⟨W2, hW2⟩ : ∃ W2, W2 = W1.setRow w.heap.size (spl (xs.take (i * 2) ++ Z) (i * 2) ys).toArray := ⟨_, rfl⟩
 have hb2 : Blk W2 w.heap.size 125 (spl (xs.take (i * 2) ++ Z) (i * 2) ys).toArray := by rw [hW2]; exact setRow_heap W1 w.heap.size _ _ 125 (0, 0) hb1
 have hbo : Blk W2 b 125 cur := by rw [hW2]; exact (setRow_other W1 w.heap.size b _ (by have := hbk.lt; omega)).trans (hbk.below hB1 hbk.lt)
 have hl2 : (spl (xs.take (i * 2) ++ Z) (i * 2) ys).length = G * 2 := by rw [spl_len (by rw [hl1, hys]; omega), hl1]
 have hrun2 : Hid (∀ ty, (Builtin.copy_ #[50, 50] ty #[.slice (some ⟨w.heap.size, (i + 1) * 2, none⟩) (n - i) (G - (i + 1)), .slice (some ⟨b, i * 2, none⟩) (n - i) (n - i)]).run Tryz.prog W2.drew = .ok (goInt ((n - i : Nat) : Int)) (W2.drew.setRow w.heap.size (spl (spl (xs.take (i * 2) ++ Z) (i * 2) ys) ((i + 1) * 2) (xs.drop (i * 2))).toArray)) := hHd (fun ty => by
  have h := run_copy_k W2.drew 50 50 ty 125 w.heap.size ((i + 1) * 2) (n - i) (G - (i + 1)) ⟨b, i * 2, none⟩ (n - i) (n - i) _ 125 (xs.drop (i * 2)) (n - i) 2 Tryz.underlying50 (by kernel_rfl) hb2 (by simp only [Nat.min_def]; split <;> omega) hD
   (fun j v hj => by
    rw [sadd_lit9]
    show W2.cell? _ = _
    rw [hbo.cell, ← hbk.cell]
    rw [List.getElem?_drop] at hj
    exact hxc _ v hj)
   (by rw [hD]; simp only [List.size_toArray]; rw [hl2]; omega) (fun v hv => hox v (List.mem_of_mem_drop hv))
  exact h)
 have HP : Hid (InsPs base (.slice (some ⟨b, 0, none⟩) n n) n (xs.take (i * 2) ++ ys ++ xs.drop (i * 2)) w (.returned (.slice (some ⟨w.heap.size, 0, none⟩) (n + 1) G)) (W2.drew.setRow w.heap.size (spl (spl (xs.take (i * 2) ++ Z) (i * 2) ys) ((i + 1) * 2) (xs.drop (i * 2))).toArray)) := hHd (by
  have g1 : w.grownBy W1 (some b) := ⟨hB1.os, hB1.tape, hB1.output, hB1.size, fun k hk _ => hB1.block k hk⟩
  have g2 : w.grownBy W2 (some b) := by rw [hW2]; exact sgrown_setRow g1 (.inr (Nat.le_refl _)) _
  have g3 : w.grownBy W2.drew (some b) := ⟨g2.os, g2.tape, g2.output, g2.size, g2.block⟩
  refine ⟨_, rfl, ⟨?_, .inr ⟨w.heap.size, G, _, rfl, hb, setRow_heap W2.drew w.heap.size _ _ 125 (0, 0) hb2, hGn, hGm, ?_, ?_⟩⟩, sgrown_setRow g3 (.inr (Nat.le_refl _)) _, .inr ⟨_, rfl, Nat.le_refl _⟩⟩
  ·rw [List.length_append, List.length_append, hA, hD, hys]; omega
  ·simp only [List.size_toArray]
   rw [spl_len (by rw [hl2, hD]; omega), hl2]
  ·have h := spl_new (A := xs.take (i * 2)) (Z := Z) (ys := ys) (D := xs.drop (i * 2)) (o := i * 2) (k := 2) hA hys (by rw [hD, hZl]; omega)
   rw [hD, show i * 2 + 2 = (i + 1) * 2 by omega, show (i + 1) * 2 + (n - i) * 2 = (n + 1) * 2 by omega] at h
   exact h)
 rw [← hW1] at hrz
 rw [← hW2] at hrun1
 have hG47 : (G : Int) ≤ 9223372036854775807 := by unfold maxLen at hGm; omega
 have i0 : (0 : Int) ≤ (i : Int) := by omega
 have i1 : (i : Int) < (n : Int) := by omega
 have i2 : (n : Int) ≤ 1000000 := by omega
 have i3 : (n : Int) + 1 ≤ (G : Int) := by omega
 have i4 : ((n : Int) == (i : Int)) = false := by rw [beq_eq_false_iff_ne]; omega
 have i5 : ((i : Int) == (n : Int)) = false := by rw [beq_eq_false_iff_ne]; omega
 have i6 : (i == n) = false := by rw [beq_eq_false_iff_ne]; omega
 have i8 : (i : Int) + 1 < (G : Int) := by omega
 have i9 : ¬ G = i + 1 := by omega
 have i10 : ¬ G = i := by omega
 have i11 : ¬ n = i := by omega
 obtain ⟨R, hR⟩ : ∃ R, R = xs.take (i * 2) ++ ys ++ xs.drop (i * 2) := ⟨_, rfl⟩
 rw [← hR] at HP ⊢
 clear hR hown hox hblk hys hone hbk hcs htk hbb hxl hD hA hi0 hz0 hzs hzb hxc hold hik hG hz hz6 hZ hGm hZl hW1 hb1 hB1 hg1 hl1 hW2 hb2 hbo hl2
 go_enter Tryz.func107, Tryz.ntmps107
 go_wp2_with (first | (at_builtin; refine Lib.wpList_append_run _ rfl (.tmp 34) (.tmp 39) 50 3 rfl _ _ rfl rfl _ _ (hrz.out _) ?_) | (with_reducible refine wpList_copy9 _ rfl (.tmp 43) (.tmp 44) 50 50 rfl _ _ rfl rfl (hrun1.out _) ?_))
 have jw : IntKind.i64.wrap ((i : Int) + 1) = (i : Int) + 1 := Go.IntWalk.i64_in _ (by omega)
 have jn : ((i : Int) + 1).toNat = i + 1 := by omega
 have JW := hHd (And.intro jw jn)
 clear jw jn
 refine wp_region_noPanic ?_
 refine wp_region_held_drew (S := fun _ => True) (by kernel_rfl) trivial (fun hS => ?_)
 refine tkH 0 hS ?_
 refine tkH 1 hS ?_
 refine tkH 2 hS ?_
 refine tkH 3 hS ?_ (hy := fun w hSw => by have jw := JW.out.1; (go_simp <;> with_reducible rfl))
 refine tkH 4 hS ?_ (hy := fun w hSw => by have jn := JW.out.2; have k1 : (0 : Int) ≤ (i : Int) + 1 := (by omega); have k2 : i ≤ n := (by omega); (go_simp <;> with_reducible rfl))
 refine tkH 5 hS ?_
 refine tkH 6 hS ?_
 refine tkH 7 hS ?_ (hy := fun w hSw => by have k3 : i ≤ n := (by omega); (go_simp <;> with_reducible rfl))
 refine rdy1 8 fun K hK => ?_
 refine wp_copy9 _ (.tmp 50) (.tmp 53) 50 50 rfl _ _ rfl rfl (hrun2.out _) ?_
 refine hK.out _ _ ?sr_1 (fun hS => ?_)
 case sr_1 => (exact hS)
 clear hK K
 (try simp only [Act.put, layS])
 refine wpAnyH_done (by kernel_rfl) ?_ _
 refine NoPanic.normal ?_
 clear hS
 go_wp2
 go_ret
 exact HP.out
theorem vsins_any (v : Value) (n i g base : Nat) (xs ys : List Value) (w : World) (hown : OwnK 125 2 w base v n xs) (hox : ∀ u ∈ xs, u.oneCell' = true) (hblk : Blk w g 125 ys.toArray) (hys : ys.length = 2) (hone : ∀ u ∈ ys, u.oneCell' = true) (hn : n ≤ 1000000) (hb : base ≤ w.heap.size) (hgb : v.ownBlock ≠ some g) (hi : i ≤ n) :
  Calls Tryz.prog 107 #[v, .int .i64 (i : Int), .slice (some ⟨g, 0, none⟩) 1 1] w (InsPs base v n (xs.take (i * 2) ++ ys ++ xs.drop (i * 2)) w) := by
 rcases hown.2 with ⟨rfl, rfl⟩ | ⟨b, c, cur, rfl, h1, h2, hnc, h4, h5, h6⟩
 ·obtain rfl : i = 0 := by omega
  have hx : xs = [] := List.eq_nil_of_length_eq_zero (by rw [hown.1])
  subst hx
  have h := sins_nil g base ys w hblk hys hone hb
  simpa using h
 ·by_cases hin : i = n
  ·subst hin
   rw [List.take_of_length_le (by rw [hown.1]; exact Nat.le_refl _), List.drop_of_length_le (by rw [hown.1]; exact Nat.le_refl _), List.append_nil]
   exact sins_end b c i g base xs ys w hown hblk hys hone hn hb
  ·by_cases hc : n = c
   ·subst hc
    exact sins_full b n i g base xs ys w hown hox hblk hys hone hn hb (by omega)
   ·exact sins_room b c n i g base xs ys w hown hox hblk hys hone hn hb (fun e => hgb (by rw [← e]; rfl)) (by omega) (by omega)
end Go.Proofs.YtodlhgflfcadmaaGreat
