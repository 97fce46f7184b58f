/- PakCol -/
import Derived.Test.YtodlhgflfcadmaaGreatUM35
set_option linter.unusedSimpArgs false
set_option linter.unusedVariables false
set_option maxRecDepth 100000
set_option maxHeartbeats 8000000
namespace Go.Proofs.YtodlhgflfcadmaaGreat
open Go.RowKit
def ColP (lb : Nat) (v : Value) (F : Fo) (w : World) (r : Ending) (w' : World) : Prop := r = .returned (.tuple #[]) ∧ ∃ v', Blk w' lb 39 #[v'] ∧ OwnF DataI 48 w' (lb + 1) v' F ∧ Below lb w w' ∧ ∀ g, g < w.heap.size → g ≠ lb → v.ownBlock ≠ some g → w'.heap[g]? = w.heap[g]?
theorem coll_not (nm : List UInt8) (kd ty lo hi : Nat) (ns : List (List UInt8)) (mu : Bool) (mo : Nat) (B : Option Addr) (m : Nat) (A : Option Addr) (q : SpF) (c : Nat) (a : NdD) (k : NdF) (Ak : Option Addr) (ck ib lb tb : Nat) (v : Value) (F : Fo) (w : World)
  (hib : Blk w ib 61 (cT nm kd ty lo hi ns mu mo B m A q.len c)) (hlb : Blk w lb 39 #[v]) (hown : OwnF DataI 48 w (lb + 1) v F) (hne : a.name ≠ nm) :
  Calls Tryz.prog 44 #[.agg (cN a (.slice Ak k.len ck)), .pointer (some ⟨ib, 0, none⟩), .pointer (some ⟨lb, 0, none⟩), .pointer (some ⟨tb, 0, none⟩)] w (ColP lb v F w) := by
 have h1 : (a.name == nm) = false := beq_eq_false_iff_ne.2 hne
 have hal : Below w.heap.size w (w.alloc (.cells (cN a (.slice Ak k.len ck)) 27)) := bAl
 have HE : Hid (ColP lb v F w (.returned (.tuple #[])) (w.alloc (.cells (cN a (.slice Ak k.len ck)) 27))) := hHd ⟨rfl, v, hlb.below hal hlb.lt, hown.below stays_I hal, hal.mono (by have := hlb.lt; omega), fun g hg _ _ => hal.block g hg⟩
 have HI := hHd (hib.below hal hib.lt)
 have q0 := (HI.out.cell 0).trans rfl
 have ta : (txt a.name).toList = a.name := txt_toList _
 have tn : (txt nm).toList = nm := txt_toList _
 clear hib hlb hown hne hal
 go_enter Tryz.func44, Tryz.ntmps44
 go_wp2
 go_end0
 exact HE.out
theorem setCell_comm {w : World} {p q : Addr} {u v : Value} (h : p.block ≠ q.block) : (w.setCell p u).setCell q v = (w.setCell q v).setCell p u := by
 unfold World.setCell
 congr 1
 apply Array.ext_getElem?
 intro i
 simp only [Array.getElem?_modify]
 by_cases h1 : p.block = i
 ·by_cases h2 : q.block = i
  ·exact absurd (h1.trans h2.symm) h
  ·simp [h1, h2]
 ·by_cases h2 : q.block = i
  ·simp [h1, h2]
  ·simp [h1, h2]
theorem set3o_comm {w : World} {g o lb : Nat} {x0 x1 x2 u : Value} (h : lb < g) : set3o (w.setCell ⟨lb, 0, none⟩ u) g o x0 x1 x2 = (set3o w g o x0 x1 x2).setCell ⟨lb, 0, none⟩ u := by
 unfold set3o
 rw [setCell_comm (p := ⟨lb, 0, none⟩) (q := ⟨g, o, none⟩) (Nat.ne_of_lt h), setCell_comm (p := ⟨lb, 0, none⟩) (q := ⟨g, o + 1, none⟩) (Nat.ne_of_lt h), setCell_comm (p := ⟨lb, 0, none⟩) (q := ⟨g, o + 2, none⟩) (Nat.ne_of_lt h)]
theorem col_end {lb tb g7 n7 c7 t : Nat} {d : List UInt8} {G F : Fo} {v dv kv : Value} {w X w7 : World} (hn : n7 = F.len + 1) (ht : t < 18446744073709551616) (hw : Below lb w X) (hx : ∀ g, g < w.heap.size → g ≠ lb → v.ownBlock ≠ some g → X.heap[g]? = w.heap[g]?) (hlt : ∀ b, v.ownBlock = some b → b < w.heap.size)
  (hlb : Blk X lb 39 #[v]) (hown : OwnF DataI 48 X (lb + 1) v F) (hap : AppF DataI 48 X (lb + 1) v (F.app (.cons 0 [] .nil .nil)) (.slice (some ⟨g7, 0, none⟩) n7 c7) w7) (hdv : DataI X (ItsI (lb + 1) X v) dv d) (hkv : FV DataI X (ItsI (lb + 1) X v) kv G) :
  Blk w7 lb 39 #[v] ∧ (∀ j, j < n7 * 3 → ∃ u, w7.cell? ⟨g7, j, none⟩ = some u) ∧ (∀ j, w7.frozen? ⟨g7, j, none⟩ = false) ∧ lb < g7 ∧
   ColP lb v (F.app (.cons t d G .nil)) w (.returned (.tuple #[])) ((set3o w7 g7 (F.len * 3) (.int .u64 (t : Int)) dv kv).setCell ⟨lb, 0, none⟩ (.slice (some ⟨g7, 0, none⟩) n7 c7)) := by
 have hlx := hlb.lt
 have hxs : w.heap.size ≤ X.heap.size := hw.size
 obtain ⟨h1, h2, h3, -⟩ := hap
 have hlen : (F.app (.cons 0 [] .nil .nil)).len = n7 := by rw [Fo.len_app, hn]; rfl
 have hg7 := h1.lt g7 rfl
 have hlb7 : Blk w7 lb 39 #[v] := hlb.grown h2 (fun e => by have := (hown.lt lb e.symm).1; omega)
 have hits : ∀ g, ItsI (lb + 1) X v g → ItsI (lb + 1) w7 (.slice (some ⟨g7, 0, none⟩) n7 c7) g := fun g hg => ⟨hg.1, Nat.lt_of_lt_of_le hg.2.1 h2.size, by
  intro e
  have e : g = g7 := by injection e
  subst e
  rcases h3 with h | h
  ·exact hg.2.2 h
  ·have h : some g = some X.heap.size := h
   injection h with h
   have := hg.2.1
   omega⟩
 have hdv7 := stays_I _ _ _ _ _ _ (fun g hg => h2.block g hg.2.1 hg.2.2) hits hdv
 have hkv7 := hkv.kept stays_I (fun g hg => h2.block g hg.2.1 hg.2.2) hits
 have hlast := OwnF.last stays_I hn h1 ht hdv7 hkv7
 obtain ⟨xs, o1, o2⟩ := h1
 rw [hlen] at o1
 refine ⟨hlb7, fun j hj => ?_, fun j => World.ownsRow.frozenAt o1 j, by omega, rfl, _, ?_, hlast.setB stays_I (Nat.lt_succ_self _) _, ?_, ?_⟩
 ·rw [World.ownsRow.cellAt o1 j hj]
  have : xs.length = n7 * 3 := o1.1
  exact ⟨_, List.getElem?_eq_getElem (by omega)⟩
 ·have hb : Blk (set3o w7 g7 (F.len * 3) (.int .u64 (t : Int)) dv kv) lb 39 #[v] := (set3o_far (by omega)).trans hlb7
  have h := hb.set_ 0 (.slice (some ⟨g7, 0, none⟩) n7 c7)
  simpa using h
 ·refine ((hw.trans ((Below.refl _ _).grown h2 (by omega) (fun b e => by have := (hown.lt b e).1; omega))).trans (set3o_below (by omega))).setCell (p := ⟨lb, 0, none⟩) (Nat.le_refl _) _
 ·intro g hg h4 h5
  rw [Below.heap_setCell _ _ _ _ h4, set3o_far, h2.block g (by omega) (fun e => h5 e.symm), hx g hg h4 h5]
  intro e
  subst e
  rcases h3 with h | h
  ·exact h5 h.symm
  ·have h : some g = some X.heap.size := h
   injection h with h
   omega
theorem far_cell {w : World} {g j lb : Nat} (h : g ≠ lb) (u : Value) : (w.setCell ⟨lb, 0, none⟩ u).cell? ⟨g, j, none⟩ = w.cell? ⟨g, j, none⟩ := World.cell?_of_block (w := w) (Below.heap_setCell _ _ _ _ h)
theorem far_frozen {w : World} {g j lb : Nat} (h : g ≠ lb) (u : Value) : (w.setCell ⟨lb, 0, none⟩ u).frozen? ⟨g, j, none⟩ = w.frozen? ⟨g, j, none⟩ := World.frozen?_of_block (w := w) (Below.heap_setCell _ _ _ _ h)
theorem dataI_its {w : World} {X lb : Nat} {v dv : Value} {d : List UInt8} (h : DataI w (MineI X w) dv d) (h1 : lb < X) (h2 : ∀ b, v.ownBlock = some b → b < X) : DataI w (ItsI (lb + 1) w v) dv d :=
 stays_I _ _ _ _ _ _ (fun g hg => rfl) (fun g hg => ⟨by have := hg.1; omega, hg.2, fun e => by have := h2 g e.symm; have := hg.1; omega⟩) h
theorem fv_its {w : World} {X lb : Nat} {v u : Value} {f : Fo} (h : FV DataI w (MineI X w) u f) (h1 : lb < X) (h2 : ∀ b, v.ownBlock = some b → b < X) : FV DataI w (ItsI (lb + 1) w v) u f :=
 h.kept stays_I (fun g hg => rfl) (fun g hg => ⟨by have := hg.1; omega, hg.2, fun e => by have := h2 g e.symm; have := hg.1; omega⟩)
theorem dataI_on {w w' : World} {lb : Nat} {v dv : Value} {d : List UInt8} (h : DataI w (ItsI lb w v) dv d) (hb : Below w.heap.size w w') : DataI w' (ItsI lb w' v) dv d :=
 stays_I _ _ _ _ _ _ (fun g hg => hb.block g hg.2.1) (fun g hg => ⟨hg.1, Nat.lt_of_lt_of_le hg.2.1 hb.size, hg.2.2⟩) h
theorem fv_on {w w' : World} {lb : Nat} {v u : Value} {f : Fo} (h : FV DataI w (ItsI lb w v) u f) (hb : Below w.heap.size w w') : FV DataI w' (ItsI lb w' v) u f :=
 h.kept stays_I (fun g hg => hb.block g hg.2.1) (fun g hg => ⟨hg.1, Nat.lt_of_lt_of_le hg.2.1 hb.size, hg.2.2⟩)
theorem coll_yes (nm : List UInt8) (kd ty lo hi : Nat) (ns : List (List UInt8)) (mu : Bool) (mo : Nat) (B : Option Addr) (m : Nat) (A : Option Addr) (q : SpF) (c : Nat) (a : NdD) (k : NdF) (Ak : Option Addr) (ck ib lb tb t : Nat) (D : List UInt8) (G : Fo) (v : Value) (F : Fo) (w : World)
  (hib : Blk w ib 61 (cT nm kd ty lo hi ns mu mo B m A q.len c)) (htb : Blk w tb 22 #[.int .u64 (t : Int)]) (hlb : Blk w lb 39 #[v]) (hown : OwnF DataI 48 w (lb + 1) v F) (hF : F.len ≤ 1000000000000) (ht : t < 18446744073709551616) (hil : ib ≠ lb) (htl : tb ≠ lb) (heq : a.name = nm)
  (hC : ∀ W, Below w.heap.size w W → Calls Tryz.prog 45 #[.agg (cT nm kd ty lo hi ns mu mo B m A q.len c), .int .u64 (t : Int), .agg (cN a (.slice Ak k.len ck))] W (ItmP t D G W)) :
  Calls Tryz.prog 44 #[.agg (cN a (.slice Ak k.len ck)), .pointer (some ⟨ib, 0, none⟩), .pointer (some ⟨lb, 0, none⟩), .pointer (some ⟨tb, 0, none⟩)] w (ColP lb v (F.app (.cons t D G .nil)) w) := by
 have h1 : (a.name == nm) = true := beq_iff_eq.2 heq
 have hltw := hown.lt
 have NE1 : Hid (some ib ≠ v.ownBlock ∧ some tb ≠ v.ownBlock ∧ some w.heap.size ≠ v.ownBlock) := hHd ⟨fun e => hown.ne hib (by decide) e.symm, fun e => hown.ne htb (by decide) e.symm, fun e => by have := (hltw _ e.symm).2; omega⟩
 have HLT : Hid (∀ b, v.ownBlock = some b → b < w.heap.size) := hHd (fun b hb => (hltw b hb).2)
 obtain ⟨Av, cv, hv⟩ := hown.shape
 obtain ⟨nF, hnF⟩ : ∃ n, n = F.len := ⟨_, rfl⟩
 rw [← hnF] at hv
 subst hv
 have hal : Below w.heap.size w (w.alloc (.cells (cN a (.slice Ak k.len ck)) 27)) := bAl
 have hL1 := hlb.below hal hlb.lt
 have hO1 := hown.below stays_I hal
 have hS1 : Blk (w.alloc (.cells (cN a (.slice Ak k.len ck)) 27)) ib 61 (cT nm kd ty lo hi ns mu mo B m A q.len c) ∧ Blk (w.alloc (.cells (cN a (.slice Ak k.len ck)) 27)) tb 22 #[.int .u64 (t : Int)] ∧ Blk (w.alloc (.cells (cN a (.slice Ak k.len ck)) 27)) w.heap.size 27 (cN a (.slice Ak k.len ck)) := ⟨hib.below hal hib.lt, htb.below hal htb.lt, Blk.new _ _ _⟩
 have q0 := (hS1.1.cell 0).trans rfl
 obtain ⟨p0, p1, p2, p3, p4, p5⟩ := cl6 hS1.2.2
 have ta : (txt a.name).toList = a.name := txt_toList _
 have tn : (txt nm).toList = nm := txt_toList _
 have HW : Hid (Below w.heap.size w (w.alloc (.cells (cN a (.slice Ak k.len ck)) 27)).drew) := hHd hal.drew
 have HL : Hid (Blk (w.alloc (.cells (cN a (.slice Ak k.len ck)) 27)).drew lb 39 #[.slice Av nF cv]) := hHd hL1
 have HO : Hid (OwnF DataI 48 (w.alloc (.cells (cN a (.slice Ak k.len ck)) 27)).drew (lb + 1) (.slice Av nF cv) F) := hHd (hO1.below stays_I (Below.refl _ _).drew)
 have HS1 : Hid (Blk (w.alloc (.cells (cN a (.slice Ak k.len ck)) 27)).drew ib 61 (cT nm kd ty lo hi ns mu mo B m A q.len c) ∧ Blk (w.alloc (.cells (cN a (.slice Ak k.len ck)) 27)).drew tb 22 #[.int .u64 (t : Int)] ∧ Blk (w.alloc (.cells (cN a (.slice Ak k.len ck)) 27)).drew w.heap.size 27 (cN a (.slice Ak k.len ck))) := hHd hS1
 have HC := hHd hC
 have HNB : Hid (lb < w.heap.size ∧ ib < w.heap.size ∧ tb < w.heap.size ∧ ib ≠ lb ∧ tb ≠ lb ∧ t < 18446744073709551616) := hHd ⟨hlb.lt, hib.lt, htb.lt, hil, htl, ht⟩
 have HFL : Hid (F.len ≤ 1000000000000 ∧ nF = F.len) := hHd ⟨hF, hnF⟩
 have j1 : (0 : Int) ≤ (nF : Int) := by omega
 clear hib htb hlb hown hF hil htl heq hC hltw hal hL1 hO1 hS1 hnF ht
 go_enter Tryz.func44, Tryz.ntmps44
 go_wp2_with fail
 clear q0 p0 p1 p2 p3 p4 p5
 generalize w.alloc (.cells (cN a (.slice Ak k.len ck)) 27) = w1 at HW HL HO HS1 ⊢
 refine wp_region_noPanic ?_
 refine wp_region_held_drew (S := fun _ => True) (by kernel_rfl) trivial (fun hS => ?_)
 refine held_more (S' := fun w' => Blk w' ib 61 (cT nm kd ty lo hi ns mu mo B m A q.len c) ∧ Blk w' tb 22 #[.int .u64 (t : Int)] ∧ Blk w' w.heap.size 27 (cN a (.slice Ak k.len ck))) (fun _ _ => trivial) _ _ _ _ ?_
 replace hS := HS1.out
 refine tkH 1 hS ?_ (hy := fun w hSw => by obtain ⟨q0, q1, q2, q3, q4, q5, q6, q7, q8⟩ := cl9 hSw.1; (go_simp <;> with_reducible rfl))
 refine tkH 2 hS ?_ (hy := fun w hSw => by have q0 := (hSw.2.1.cell 0).trans rfl; (go_simp <;> with_reducible rfl))
 refine tkH 3 hS ?_ (hy := fun w hSw => by obtain ⟨p0, p1, p2, p3, p4, p5⟩ := cl6 hSw.2.2; (go_simp <;> with_reducible rfl))
 refine rdy [0, 4, 6] (rdC (fun K hK => ?str_0) (rdC (fun K hK => ?str_1) (rdC (fun K hK => ?str_2) .nil)))
 case' str_0 =>
  have y0 : (w1).cell? ⟨lb, 0, none⟩ = some (.slice Av nF cv) := (HL.out.cell 0).trans rfl
  go_simp
  refine hK.out _ _ ?sr_0 (fun hS => ?_)
  case sr_0 => (exact hS)
  clear hK K
  (try simp only [Act.put, layS])
  clear y0
  refine tkH 5 hS ?_
  refine rdy [4, 6] (rdC (fun K hK => ?str_3) (rdC (fun K hK => ?str_4) .nil))
  case' str_3 =>
   go_simp
   refine (HC.out _ HW.out).mono ?_
   rintro r w4 ⟨dv, kv, rfl, hdv, hkv, hb4⟩
   obtain ⟨A1, c1, rfl⟩ : ∃ A1 c1, dv = .slice A1 D.length c1 := by obtain ⟨_, ⟨A1, c1, e, _⟩, _⟩ := hdv; exact ⟨A1, c1, e⟩
   obtain ⟨A2, c2, rfl⟩ := hkv.shape
   have HDV := hHd (dataI_its (lb := lb) (v := .slice Av nF cv) hdv (Nat.lt_of_lt_of_le HNB.out.1 HW.out.size) (fun b hb => Nat.lt_of_lt_of_le (HLT.out b hb) HW.out.size))
   have HKV := hHd (fv_its (lb := lb) (v := .slice Av nF cv) hkv (Nat.lt_of_lt_of_le HNB.out.1 HW.out.size) (fun b hb => Nat.lt_of_lt_of_le (HLT.out b hb) HW.out.size))
   have HL := hHd (HL.out.below hb4 HL.out.lt)
   have HO := hHd (HO.out.below stays_I hb4)
   have HW := hHd (HW.out.trans (hb4.mono HW.out.size))
   have hS4 : Blk w4 ib 61 (cT nm kd ty lo hi ns mu mo B m A q.len c) ∧ Blk w4 tb 22 #[.int .u64 (t : Int)] ∧ Blk w4 w.heap.size 27 (cN a (.slice Ak k.len ck)) := ⟨hS.1.below hb4 hS.1.lt, hS.2.1.below hb4 hS.2.1.lt, hS.2.2.below hb4 hS.2.2.lt⟩
   have HS4 := hHd hS4
   clear hb4 hdv hkv hS4
   go_wp2_with fail
   refine hK.out _ _ ?sr_3 (fun hS => ?_)
   case sr_3 => (exact HS4.out)
   clear hK K
   (try simp only [Act.put, layS])
   refine rdy1 6 fun K hK => ?_
   have hbA : Below (w4).heap.size (w4) ((w4).alloc (.cells #[.int .u64 0, .slice none 0 0, .slice none 0 0] 48)) := bAl
   have HZ : Hid (Blk ((w4).alloc (.cells #[.int .u64 0, .slice none 0 0, .slice none 0 0] 48)) (w4).heap.size 48 #[.int .u64 0, .slice none 0 0, .slice none 0 0]) := hHd (Blk.new _ _ _)
   have HL := hHd (HL.out.below hbA HL.out.lt)
   have HO := hHd (HO.out.below stays_I hbA)
   have HDV := hHd (dataI_on HDV.out hbA)
   have HKV := hHd (fv_on HKV.out hbA)
   have HW := hHd (HW.out.trans (hbA.mono HW.out.size))
   clear hbA
   go_simp
   refine hK.out _ _ ?sr_5 (fun hS => ?_)
   case sr_5 => (exact ⟨hS.1.alloc _, hS.2.1.alloc _, hS.2.2.alloc _⟩)
   clear hK K
   (try simp only [Act.put, layS])
   refine rdy1 7 fun K hK => ?_
   refine wp_append_it stays_I one_I Tryz.underlying39 Tryz.infoT zeroI3 (.tmp 10) (.tmp 16) (by rfl) (by rfl) (lb + 1) (.slice Av nF cv) F (by rfl) HO.out _ (by rfl) 0 [] .nil (.slice none 0 0) (.slice none 0 0) HZ.out (by decide) (dataI_nil _ _) (FV.nil _ _) ?_ ?_ ?_ ?_
   ·have := HFL.out.1; omega
   ·have := HFL.out.1; omega
   ·exact HL.out.lt
   intro v7 w7 hap
   obtain ⟨g7, c7, h7⟩ := hap.2.2.2
   obtain ⟨n7, hn7⟩ : ∃ n, n = (F.app (.cons 0 [] .nil .nil)).len := ⟨_, rfl⟩
   rw [← hn7] at h7
   subst h7
   have hn8 : n7 = F.len + 1 := by rw [hn7, Fo.len_app]; rfl
   have hE := col_end (tb := tb) hn8 HNB.out.2.2.2.2.2 (HW.out.mono (Nat.le_of_lt HNB.out.1)) (fun g hg _ _ => HW.out.block g hg) HLT.out HL.out HO.out hap HDV.out HKV.out
   rw [← HFL.out.2] at hE
   have j2 : (nF : Int) < (n7 : Int) := by have := HFL.out.2; omega
   have HI7 : Hid (∀ j, j < 3 → nF * 3 + j < n7 * 3) := hHd (fun j hj => by have := HFL.out.2; omega)
   have hS7 : Blk w7 ib 61 (cT nm kd ty lo hi ns mu mo B m A q.len c) ∧ Blk w7 tb 22 #[.int .u64 (t : Int)] ∧ Blk w7 w.heap.size 27 (cN a (.slice Ak k.len ck)) := ⟨hS.1.grown hap.2.1 NE1.out.1, hS.2.1.grown hap.2.1 NE1.out.2.1, hS.2.2.grown hap.2.1 NE1.out.2.2⟩
   have hib7 : ib ≠ g7 ∧ tb ≠ g7 ∧ w.heap.size ≠ g7 := ⟨fun e => hap.1.ne hS7.1 (by decide) (by rw [e]; rfl), fun e => hap.1.ne hS7.2.1 (by decide) (by rw [e]; rfl), fun e => hap.1.ne hS7.2.2 (by decide) (by rw [e]; rfl)⟩
   have HS7 := hHd hS7
   have HG7 := hHd hap.2.1
   have HE := hHd hE
   have HN7 := hHd hib7
   clear hE hap hn7 hn8 hib7 hS7
   refine hK.out _ _ ?sr_6 (fun hS => ?_)
   case sr_6 => (exact HS7.out)
   clear hK K
   (try simp only [Act.put, layS])
   refine tkH 8 hS ?_
   refine rdy [9, 10] (rdC (fun K hK => ?str_7) (rdC (fun K hK => ?str_8) .nil))
   case' str_7 =>
    obtain ⟨u0, hu0⟩ := HE.out.2.1 (nF * 3) (HI7.out 0 (by decide))
    obtain ⟨u1, hu1⟩ := HE.out.2.1 (nF * 3 + 1) (HI7.out 1 (by decide))
    obtain ⟨u2, hu2⟩ := HE.out.2.1 (nF * 3 + 2) (HI7.out 2 (by decide))
    have fz0 := HE.out.2.2.1 (nF * 3)
    have fz1 := HE.out.2.2.1 (nF * 3 + 1)
    have fz2 := HE.out.2.2.1 (nF * 3 + 2)
    go_simp
    refine hK.out _ _ ?sr_7 (fun hS => ?_)
    case sr_7 => (exact ⟨((hS.1.far (p := ⟨g7, _, none⟩) HN7.out.1 _).far (p := ⟨g7, _, none⟩) HN7.out.1 _).far (p := ⟨g7, _, none⟩) HN7.out.1 _, ((hS.2.1.far (p := ⟨g7, _, none⟩) HN7.out.2.1 _).far (p := ⟨g7, _, none⟩) HN7.out.2.1 _).far (p := ⟨g7, _, none⟩) HN7.out.2.1 _, ((hS.2.2.far (p := ⟨g7, _, none⟩) HN7.out.2.2 _).far (p := ⟨g7, _, none⟩) HN7.out.2.2 _).far (p := ⟨g7, _, none⟩) HN7.out.2.2 _⟩)
    clear hK K
    (try simp only [Act.put, layS])
    clear hu0 hu1 hu2 fz0 fz1 fz2
    refine rdy1 10 fun K hK => ?_
    have hl9 : Blk (set3o w7 g7 (nF * 3) (.int .u64 (t : Int)) (.slice A1 D.length c1) (.slice A2 G.len c2)) lb 39 #[.slice Av nF cv] := (set3o_far (Nat.ne_of_lt HE.out.2.2.2.1)).trans HE.out.1
    unfold set3o at hl9
    have lq := (hl9.cell 0).trans rfl
    have lf := hl9.frozen 0
    clear hl9
    go_simp
    refine hK.out _ _ ?sr_9 (fun hS => ?_)
    case sr_9 => (exact ⟨hS.1.far (p := ⟨lb, _, none⟩) HNB.out.2.2.2.1 _, hS.2.1.far (p := ⟨lb, _, none⟩) HNB.out.2.2.2.2.1 _, hS.2.2.far (p := ⟨lb, _, none⟩) (by have := HNB.out.1; show w.heap.size ≠ lb; omega) _⟩)
    clear hK K
    (try simp only [Act.put, layS])
    clear lq lf
    have HF := hHd HE.out.2.2.2.2
    unfold set3o at HF
    refine wpAnyH_done (by kernel_rfl) ?_ _
    refine NoPanic.normal ?_
   case' str_8 =>
    have hl9 := HE.out.1
    have lq := (hl9.cell 0).trans rfl
    have lf := hl9.frozen 0
    clear hl9
    go_simp
    refine hK.out _ _ ?sr_8 (fun hS => ?_)
    case sr_8 => (exact ⟨hS.1.far (p := ⟨lb, _, none⟩) HNB.out.2.2.2.1 _, hS.2.1.far (p := ⟨lb, _, none⟩) HNB.out.2.2.2.2.1 _, hS.2.2.far (p := ⟨lb, _, none⟩) (by have := HNB.out.1; show w.heap.size ≠ lb; omega) _⟩)
    clear hK K
    (try simp only [Act.put, layS])
    clear lq lf
    refine rdy1 9 fun K hK => ?_
    obtain ⟨u0, hu0⟩ := HE.out.2.1 (nF * 3) (HI7.out 0 (by decide))
    obtain ⟨u1, hu1⟩ := HE.out.2.1 (nF * 3 + 1) (HI7.out 1 (by decide))
    obtain ⟨u2, hu2⟩ := HE.out.2.1 (nF * 3 + 2) (HI7.out 2 (by decide))
    have fz0 := HE.out.2.2.1 (nF * 3)
    have fz1 := HE.out.2.2.1 (nF * 3 + 1)
    have fz2 := HE.out.2.2.1 (nF * 3 + 2)
    rw [← far_cell (Nat.ne_of_gt HE.out.2.2.2.1) (.slice (some ⟨g7, 0, none⟩) n7 c7)] at hu0 hu1 hu2
    rw [← far_frozen (Nat.ne_of_gt HE.out.2.2.2.1) (.slice (some ⟨g7, 0, none⟩) n7 c7)] at fz0 fz1 fz2
    go_simp
    refine hK.out _ _ ?sr_a (fun hS => ?_)
    case sr_a => (exact ⟨((hS.1.far (p := ⟨g7, _, none⟩) HN7.out.1 _).far (p := ⟨g7, _, none⟩) HN7.out.1 _).far (p := ⟨g7, _, none⟩) HN7.out.1 _, ((hS.2.1.far (p := ⟨g7, _, none⟩) HN7.out.2.1 _).far (p := ⟨g7, _, none⟩) HN7.out.2.1 _).far (p := ⟨g7, _, none⟩) HN7.out.2.1 _, ((hS.2.2.far (p := ⟨g7, _, none⟩) HN7.out.2.2 _).far (p := ⟨g7, _, none⟩) HN7.out.2.2 _).far (p := ⟨g7, _, none⟩) HN7.out.2.2 _⟩)
    clear hK K
    (try simp only [Act.put, layS])
    clear hu0 hu1 hu2 fz0 fz1 fz2
    have hF := HE.out.2.2.2.2
    rw [← set3o_comm HE.out.2.2.2.1] at hF
    have HF := hHd hF
    unfold set3o at HF
    clear hF
    refine wpAnyH_done (by kernel_rfl) ?_ _
    refine NoPanic.normal ?_
  case' str_4 =>
   have hbA : Below (w1.drew).heap.size (w1.drew) ((w1.drew).alloc (.cells #[.int .u64 0, .slice none 0 0, .slice none 0 0] 48)) := bAl
   have HZ : Hid (Blk ((w1.drew).alloc (.cells #[.int .u64 0, .slice none 0 0, .slice none 0 0] 48)) (w1.drew).heap.size 48 #[.int .u64 0, .slice none 0 0, .slice none 0 0]) := hHd (Blk.new _ _ _)
   have HL := hHd (HL.out.below hbA HL.out.lt)
   have HO := hHd (HO.out.below stays_I hbA)
   have HW := hHd (HW.out.trans (hbA.mono HW.out.size))
   clear hbA
   go_simp
   refine hK.out _ _ ?sr_4 (fun hS => ?_)
   case sr_4 => (exact ⟨hS.1.alloc _, hS.2.1.alloc _, hS.2.2.alloc _⟩)
   clear hK K
   (try simp only [Act.put, layS])
   refine rdy1 4 fun K hK => ?_
   go_simp
   refine (HC.out _ HW.out).mono ?_
   rintro r w4 ⟨dv, kv, rfl, hdv, hkv, hb4⟩
   obtain ⟨A1, c1, rfl⟩ : ∃ A1 c1, dv = .slice A1 D.length c1 := by obtain ⟨_, ⟨A1, c1, e, _⟩, _⟩ := hdv; exact ⟨A1, c1, e⟩
   obtain ⟨A2, c2, rfl⟩ := hkv.shape
   have HDV := hHd (dataI_its (lb := lb) (v := .slice Av nF cv) hdv (Nat.lt_of_lt_of_le HNB.out.1 HW.out.size) (fun b hb => Nat.lt_of_lt_of_le (HLT.out b hb) HW.out.size))
   have HKV := hHd (fv_its (lb := lb) (v := .slice Av nF cv) hkv (Nat.lt_of_lt_of_le HNB.out.1 HW.out.size) (fun b hb => Nat.lt_of_lt_of_le (HLT.out b hb) HW.out.size))
   have HL := hHd (HL.out.below hb4 HL.out.lt)
   have HO := hHd (HO.out.below stays_I hb4)
   have HZ := hHd (HZ.out.below hb4 HZ.out.lt)
   have HW := hHd (HW.out.trans (hb4.mono HW.out.size))
   have hS4 : Blk w4 ib 61 (cT nm kd ty lo hi ns mu mo B m A q.len c) ∧ Blk w4 tb 22 #[.int .u64 (t : Int)] ∧ Blk w4 w.heap.size 27 (cN a (.slice Ak k.len ck)) := ⟨hS.1.below hb4 hS.1.lt, hS.2.1.below hb4 hS.2.1.lt, hS.2.2.below hb4 hS.2.2.lt⟩
   have HS4 := hHd hS4
   clear hb4 hdv hkv hS4
   go_wp2_with fail
   refine hK.out _ _ ?sr_b (fun hS => ?_)
   case sr_b => (exact HS4.out)
   clear hK K
   (try simp only [Act.put, layS])
   refine rdy1 7 fun K hK => ?_
   refine wp_append_it stays_I one_I Tryz.underlying39 Tryz.infoT zeroI3 (.tmp 10) (.tmp 16) (by rfl) (by rfl) (lb + 1) (.slice Av nF cv) F (by rfl) HO.out _ (by rfl) 0 [] .nil (.slice none 0 0) (.slice none 0 0) HZ.out (by decide) (dataI_nil _ _) (FV.nil _ _) ?_ ?_ ?_ ?_
   ·have := HFL.out.1; omega
   ·have := HFL.out.1; omega
   ·exact HL.out.lt
   intro v7 w7 hap
   obtain ⟨g7, c7, h7⟩ := hap.2.2.2
   obtain ⟨n7, hn7⟩ : ∃ n, n = (F.app (.cons 0 [] .nil .nil)).len := ⟨_, rfl⟩
   rw [← hn7] at h7
   subst h7
   have hn8 : n7 = F.len + 1 := by rw [hn7, Fo.len_app]; rfl
   have hE := col_end (tb := tb) hn8 HNB.out.2.2.2.2.2 (HW.out.mono (Nat.le_of_lt HNB.out.1)) (fun g hg _ _ => HW.out.block g hg) HLT.out HL.out HO.out hap HDV.out HKV.out
   rw [← HFL.out.2] at hE
   have j2 : (nF : Int) < (n7 : Int) := by have := HFL.out.2; omega
   have HI7 : Hid (∀ j, j < 3 → nF * 3 + j < n7 * 3) := hHd (fun j hj => by have := HFL.out.2; omega)
   have hS7 : Blk w7 ib 61 (cT nm kd ty lo hi ns mu mo B m A q.len c) ∧ Blk w7 tb 22 #[.int .u64 (t : Int)] ∧ Blk w7 w.heap.size 27 (cN a (.slice Ak k.len ck)) := ⟨hS.1.grown hap.2.1 NE1.out.1, hS.2.1.grown hap.2.1 NE1.out.2.1, hS.2.2.grown hap.2.1 NE1.out.2.2⟩
   have hib7 : ib ≠ g7 ∧ tb ≠ g7 ∧ w.heap.size ≠ g7 := ⟨fun e => hap.1.ne hS7.1 (by decide) (by rw [e]; rfl), fun e => hap.1.ne hS7.2.1 (by decide) (by rw [e]; rfl), fun e => hap.1.ne hS7.2.2 (by decide) (by rw [e]; rfl)⟩
   have HS7 := hHd hS7
   have HG7 := hHd hap.2.1
   have HE := hHd hE
   have HN7 := hHd hib7
   clear hE hap hn7 hn8 hib7 hS7
   refine hK.out _ _ ?sr_c (fun hS => ?_)
   case sr_c => (exact HS7.out)
   clear hK K
   (try simp only [Act.put, layS])
   refine tkH 8 hS ?_
   refine rdy [9, 10] (rdC (fun K hK => ?str_d) (rdC (fun K hK => ?str_e) .nil))
   case' str_d =>
    obtain ⟨u0, hu0⟩ := HE.out.2.1 (nF * 3) (HI7.out 0 (by decide))
    obtain ⟨u1, hu1⟩ := HE.out.2.1 (nF * 3 + 1) (HI7.out 1 (by decide))
    obtain ⟨u2, hu2⟩ := HE.out.2.1 (nF * 3 + 2) (HI7.out 2 (by decide))
    have fz0 := HE.out.2.2.1 (nF * 3)
    have fz1 := HE.out.2.2.1 (nF * 3 + 1)
    have fz2 := HE.out.2.2.1 (nF * 3 + 2)
    go_simp
    refine hK.out _ _ ?sr_d (fun hS => ?_)
    case sr_d => (exact ⟨((hS.1.far (p := ⟨g7, _, none⟩) HN7.out.1 _).far (p := ⟨g7, _, none⟩) HN7.out.1 _).far (p := ⟨g7, _, none⟩) HN7.out.1 _, ((hS.2.1.far (p := ⟨g7, _, none⟩) HN7.out.2.1 _).far (p := ⟨g7, _, none⟩) HN7.out.2.1 _).far (p := ⟨g7, _, none⟩) HN7.out.2.1 _, ((hS.2.2.far (p := ⟨g7, _, none⟩) HN7.out.2.2 _).far (p := ⟨g7, _, none⟩) HN7.out.2.2 _).far (p := ⟨g7, _, none⟩) HN7.out.2.2 _⟩)
    clear hK K
    (try simp only [Act.put, layS])
    clear hu0 hu1 hu2 fz0 fz1 fz2
    refine rdy1 10 fun K hK => ?_
    have hl9 : Blk (set3o w7 g7 (nF * 3) (.int .u64 (t : Int)) (.slice A1 D.length c1) (.slice A2 G.len c2)) lb 39 #[.slice Av nF cv] := (set3o_far (Nat.ne_of_lt HE.out.2.2.2.1)).trans HE.out.1
    unfold set3o at hl9
    have lq := (hl9.cell 0).trans rfl
    have lf := hl9.frozen 0
    clear hl9
    go_simp
    refine hK.out _ _ ?sr_f (fun hS => ?_)
    case sr_f => (exact ⟨hS.1.far (p := ⟨lb, _, none⟩) HNB.out.2.2.2.1 _, hS.2.1.far (p := ⟨lb, _, none⟩) HNB.out.2.2.2.2.1 _, hS.2.2.far (p := ⟨lb, _, none⟩) (by have := HNB.out.1; show w.heap.size ≠ lb; omega) _⟩)
    clear hK K
    (try simp only [Act.put, layS])
    clear lq lf
    have HF := hHd HE.out.2.2.2.2
    unfold set3o at HF
    refine wpAnyH_done (by kernel_rfl) ?_ _
    refine NoPanic.normal ?_
   case' str_e =>
    have hl9 := HE.out.1
    have lq := (hl9.cell 0).trans rfl
    have lf := hl9.frozen 0
    clear hl9
    go_simp
    refine hK.out _ _ ?sr_e (fun hS => ?_)
    case sr_e => (exact ⟨hS.1.far (p := ⟨lb, _, none⟩) HNB.out.2.2.2.1 _, hS.2.1.far (p := ⟨lb, _, none⟩) HNB.out.2.2.2.2.1 _, hS.2.2.far (p := ⟨lb, _, none⟩) (by have := HNB.out.1; show w.heap.size ≠ lb; omega) _⟩)
    clear hK K
    (try simp only [Act.put, layS])
    clear lq lf
    refine rdy1 9 fun K hK => ?_
    obtain ⟨u0, hu0⟩ := HE.out.2.1 (nF * 3) (HI7.out 0 (by decide))
    obtain ⟨u1, hu1⟩ := HE.out.2.1 (nF * 3 + 1) (HI7.out 1 (by decide))
    obtain ⟨u2, hu2⟩ := HE.out.2.1 (nF * 3 + 2) (HI7.out 2 (by decide))
    have fz0 := HE.out.2.2.1 (nF * 3)
    have fz1 := HE.out.2.2.1 (nF * 3 + 1)
    have fz2 := HE.out.2.2.1 (nF * 3 + 2)
    rw [← far_cell (Nat.ne_of_gt HE.out.2.2.2.1) (.slice (some ⟨g7, 0, none⟩) n7 c7)] at hu0 hu1 hu2
    rw [← far_frozen (Nat.ne_of_gt HE.out.2.2.2.1) (.slice (some ⟨g7, 0, none⟩) n7 c7)] at fz0 fz1 fz2
    go_simp
    refine hK.out _ _ ?sr_g (fun hS => ?_)
    case sr_g => (exact ⟨((hS.1.far (p := ⟨g7, _, none⟩) HN7.out.1 _).far (p := ⟨g7, _, none⟩) HN7.out.1 _).far (p := ⟨g7, _, none⟩) HN7.out.1 _, ((hS.2.1.far (p := ⟨g7, _, none⟩) HN7.out.2.1 _).far (p := ⟨g7, _, none⟩) HN7.out.2.1 _).far (p := ⟨g7, _, none⟩) HN7.out.2.1 _, ((hS.2.2.far (p := ⟨g7, _, none⟩) HN7.out.2.2 _).far (p := ⟨g7, _, none⟩) HN7.out.2.2 _).far (p := ⟨g7, _, none⟩) HN7.out.2.2 _⟩)
    clear hK K
    (try simp only [Act.put, layS])
    clear hu0 hu1 hu2 fz0 fz1 fz2
    have hF := HE.out.2.2.2.2
    rw [← set3o_comm HE.out.2.2.2.1] at hF
    have HF := hHd hF
    unfold set3o at HF
    clear hF
    refine wpAnyH_done (by kernel_rfl) ?_ _
    refine NoPanic.normal ?_
 case' str_1 =>
  go_simp
  refine (HC.out _ HW.out).mono ?_
  rintro r w4 ⟨dv, kv, rfl, hdv, hkv, hb4⟩
  obtain ⟨A1, c1, rfl⟩ : ∃ A1 c1, dv = .slice A1 D.length c1 := by obtain ⟨_, ⟨A1, c1, e, _⟩, _⟩ := hdv; exact ⟨A1, c1, e⟩
  obtain ⟨A2, c2, rfl⟩ := hkv.shape
  have HDV := hHd (dataI_its (lb := lb) (v := .slice Av nF cv) hdv (Nat.lt_of_lt_of_le HNB.out.1 HW.out.size) (fun b hb => Nat.lt_of_lt_of_le (HLT.out b hb) HW.out.size))
  have HKV := hHd (fv_its (lb := lb) (v := .slice Av nF cv) hkv (Nat.lt_of_lt_of_le HNB.out.1 HW.out.size) (fun b hb => Nat.lt_of_lt_of_le (HLT.out b hb) HW.out.size))
  have HL := hHd (HL.out.below hb4 HL.out.lt)
  have HO := hHd (HO.out.below stays_I hb4)
  have HW := hHd (HW.out.trans (hb4.mono HW.out.size))
  have hS4 : Blk w4 ib 61 (cT nm kd ty lo hi ns mu mo B m A q.len c) ∧ Blk w4 tb 22 #[.int .u64 (t : Int)] ∧ Blk w4 w.heap.size 27 (cN a (.slice Ak k.len ck)) := ⟨hS.1.below hb4 hS.1.lt, hS.2.1.below hb4 hS.2.1.lt, hS.2.2.below hb4 hS.2.2.lt⟩
  have HS4 := hHd hS4
  clear hb4 hdv hkv hS4
  go_wp2_with fail
  refine hK.out _ _ ?sr_1 (fun hS => ?_)
  case sr_1 => (exact HS4.out)
  clear hK K
  (try simp only [Act.put, layS])
  refine rdy [0, 6] (rdC (fun K hK => ?str_h) (rdC (fun K hK => ?str_i) .nil))
  case' str_h =>
   have y0 : (w4).cell? ⟨lb, 0, none⟩ = some (.slice Av nF cv) := (HL.out.cell 0).trans rfl
   go_simp
   refine hK.out _ _ ?sr_h (fun hS => ?_)
   case sr_h => (exact hS)
   clear hK K
   (try simp only [Act.put, layS])
   clear y0
   refine tkH 5 hS ?_
   refine rdy1 6 fun K hK => ?_
   have hbA : Below (w4).heap.size (w4) ((w4).alloc (.cells #[.int .u64 0, .slice none 0 0, .slice none 0 0] 48)) := bAl
   have HZ : Hid (Blk ((w4).alloc (.cells #[.int .u64 0, .slice none 0 0, .slice none 0 0] 48)) (w4).heap.size 48 #[.int .u64 0, .slice none 0 0, .slice none 0 0]) := hHd (Blk.new _ _ _)
   have HL := hHd (HL.out.below hbA HL.out.lt)
   have HO := hHd (HO.out.below stays_I hbA)
   have HDV := hHd (dataI_on HDV.out hbA)
   have HKV := hHd (fv_on HKV.out hbA)
   have HW := hHd (HW.out.trans (hbA.mono HW.out.size))
   clear hbA
   go_simp
   refine hK.out _ _ ?sr_j (fun hS => ?_)
   case sr_j => (exact ⟨hS.1.alloc _, hS.2.1.alloc _, hS.2.2.alloc _⟩)
   clear hK K
   (try simp only [Act.put, layS])
   refine rdy1 7 fun K hK => ?_
   refine wp_append_it stays_I one_I Tryz.underlying39 Tryz.infoT zeroI3 (.tmp 10) (.tmp 16) (by rfl) (by rfl) (lb + 1) (.slice Av nF cv) F (by rfl) HO.out _ (by rfl) 0 [] .nil (.slice none 0 0) (.slice none 0 0) HZ.out (by decide) (dataI_nil _ _) (FV.nil _ _) ?_ ?_ ?_ ?_
   ·have := HFL.out.1; omega
   ·have := HFL.out.1; omega
   ·exact HL.out.lt
   intro v7 w7 hap
   obtain ⟨g7, c7, h7⟩ := hap.2.2.2
   obtain ⟨n7, hn7⟩ : ∃ n, n = (F.app (.cons 0 [] .nil .nil)).len := ⟨_, rfl⟩
   rw [← hn7] at h7
   subst h7
   have hn8 : n7 = F.len + 1 := by rw [hn7, Fo.len_app]; rfl
   have hE := col_end (tb := tb) hn8 HNB.out.2.2.2.2.2 (HW.out.mono (Nat.le_of_lt HNB.out.1)) (fun g hg _ _ => HW.out.block g hg) HLT.out HL.out HO.out hap HDV.out HKV.out
   rw [← HFL.out.2] at hE
   have j2 : (nF : Int) < (n7 : Int) := by have := HFL.out.2; omega
   have HI7 : Hid (∀ j, j < 3 → nF * 3 + j < n7 * 3) := hHd (fun j hj => by have := HFL.out.2; omega)
   have hS7 : Blk w7 ib 61 (cT nm kd ty lo hi ns mu mo B m A q.len c) ∧ Blk w7 tb 22 #[.int .u64 (t : Int)] ∧ Blk w7 w.heap.size 27 (cN a (.slice Ak k.len ck)) := ⟨hS.1.grown hap.2.1 NE1.out.1, hS.2.1.grown hap.2.1 NE1.out.2.1, hS.2.2.grown hap.2.1 NE1.out.2.2⟩
   have hib7 : ib ≠ g7 ∧ tb ≠ g7 ∧ w.heap.size ≠ g7 := ⟨fun e => hap.1.ne hS7.1 (by decide) (by rw [e]; rfl), fun e => hap.1.ne hS7.2.1 (by decide) (by rw [e]; rfl), fun e => hap.1.ne hS7.2.2 (by decide) (by rw [e]; rfl)⟩
   have HS7 := hHd hS7
   have HG7 := hHd hap.2.1
   have HE := hHd hE
   have HN7 := hHd hib7
   clear hE hap hn7 hn8 hib7 hS7
   refine hK.out _ _ ?sr_k (fun hS => ?_)
   case sr_k => (exact HS7.out)
   clear hK K
   (try simp only [Act.put, layS])
   refine tkH 8 hS ?_
   refine rdy [9, 10] (rdC (fun K hK => ?str_l) (rdC (fun K hK => ?str_m) .nil))
   case' str_l =>
    obtain ⟨u0, hu0⟩ := HE.out.2.1 (nF * 3) (HI7.out 0 (by decide))
    obtain ⟨u1, hu1⟩ := HE.out.2.1 (nF * 3 + 1) (HI7.out 1 (by decide))
    obtain ⟨u2, hu2⟩ := HE.out.2.1 (nF * 3 + 2) (HI7.out 2 (by decide))
    have fz0 := HE.out.2.2.1 (nF * 3)
    have fz1 := HE.out.2.2.1 (nF * 3 + 1)
    have fz2 := HE.out.2.2.1 (nF * 3 + 2)
    go_simp
    refine hK.out _ _ ?sr_l (fun hS => ?_)
    case sr_l => (exact ⟨((hS.1.far (p := ⟨g7, _, none⟩) HN7.out.1 _).far (p := ⟨g7, _, none⟩) HN7.out.1 _).far (p := ⟨g7, _, none⟩) HN7.out.1 _, ((hS.2.1.far (p := ⟨g7, _, none⟩) HN7.out.2.1 _).far (p := ⟨g7, _, none⟩) HN7.out.2.1 _).far (p := ⟨g7, _, none⟩) HN7.out.2.1 _, ((hS.2.2.far (p := ⟨g7, _, none⟩) HN7.out.2.2 _).far (p := ⟨g7, _, none⟩) HN7.out.2.2 _).far (p := ⟨g7, _, none⟩) HN7.out.2.2 _⟩)
    clear hK K
    (try simp only [Act.put, layS])
    clear hu0 hu1 hu2 fz0 fz1 fz2
    refine rdy1 10 fun K hK => ?_
    have hl9 : Blk (set3o w7 g7 (nF * 3) (.int .u64 (t : Int)) (.slice A1 D.length c1) (.slice A2 G.len c2)) lb 39 #[.slice Av nF cv] := (set3o_far (Nat.ne_of_lt HE.out.2.2.2.1)).trans HE.out.1
    unfold set3o at hl9
    have lq := (hl9.cell 0).trans rfl
    have lf := hl9.frozen 0
    clear hl9
    go_simp
    refine hK.out _ _ ?sr_n (fun hS => ?_)
    case sr_n => (exact ⟨hS.1.far (p := ⟨lb, _, none⟩) HNB.out.2.2.2.1 _, hS.2.1.far (p := ⟨lb, _, none⟩) HNB.out.2.2.2.2.1 _, hS.2.2.far (p := ⟨lb, _, none⟩) (by have := HNB.out.1; show w.heap.size ≠ lb; omega) _⟩)
    clear hK K
    (try simp only [Act.put, layS])
    clear lq lf
    have HF := hHd HE.out.2.2.2.2
    unfold set3o at HF
    refine wpAnyH_done (by kernel_rfl) ?_ _
    refine NoPanic.normal ?_
   case' str_m =>
    have hl9 := HE.out.1
    have lq := (hl9.cell 0).trans rfl
    have lf := hl9.frozen 0
    clear hl9
    go_simp
    refine hK.out _ _ ?sr_m (fun hS => ?_)
    case sr_m => (exact ⟨hS.1.far (p := ⟨lb, _, none⟩) HNB.out.2.2.2.1 _, hS.2.1.far (p := ⟨lb, _, none⟩) HNB.out.2.2.2.2.1 _, hS.2.2.far (p := ⟨lb, _, none⟩) (by have := HNB.out.1; show w.heap.size ≠ lb; omega) _⟩)
    clear hK K
    (try simp only [Act.put, layS])
    clear lq lf
    refine rdy1 9 fun K hK => ?_
    obtain ⟨u0, hu0⟩ := HE.out.2.1 (nF * 3) (HI7.out 0 (by decide))
    obtain ⟨u1, hu1⟩ := HE.out.2.1 (nF * 3 + 1) (HI7.out 1 (by decide))
    obtain ⟨u2, hu2⟩ := HE.out.2.1 (nF * 3 + 2) (HI7.out 2 (by decide))
    have fz0 := HE.out.2.2.1 (nF * 3)
    have fz1 := HE.out.2.2.1 (nF * 3 + 1)
    have fz2 := HE.out.2.2.1 (nF * 3 + 2)
    rw [← far_cell (Nat.ne_of_gt HE.out.2.2.2.1) (.slice (some ⟨g7, 0, none⟩) n7 c7)] at hu0 hu1 hu2
    rw [← far_frozen (Nat.ne_of_gt HE.out.2.2.2.1) (.slice (some ⟨g7, 0, none⟩) n7 c7)] at fz0 fz1 fz2
    go_simp
    refine hK.out _ _ ?sr_o (fun hS => ?_)
    case sr_o => (exact ⟨((hS.1.far (p := ⟨g7, _, none⟩) HN7.out.1 _).far (p := ⟨g7, _, none⟩) HN7.out.1 _).far (p := ⟨g7, _, none⟩) HN7.out.1 _, ((hS.2.1.far (p := ⟨g7, _, none⟩) HN7.out.2.1 _).far (p := ⟨g7, _, none⟩) HN7.out.2.1 _).far (p := ⟨g7, _, none⟩) HN7.out.2.1 _, ((hS.2.2.far (p := ⟨g7, _, none⟩) HN7.out.2.2 _).far (p := ⟨g7, _, none⟩) HN7.out.2.2 _).far (p := ⟨g7, _, none⟩) HN7.out.2.2 _⟩)
    clear hK K
    (try simp only [Act.put, layS])
    clear hu0 hu1 hu2 fz0 fz1 fz2
    have hF := HE.out.2.2.2.2
    rw [← set3o_comm HE.out.2.2.2.1] at hF
    have HF := hHd hF
    unfold set3o at HF
    clear hF
    refine wpAnyH_done (by kernel_rfl) ?_ _
    refine NoPanic.normal ?_
  case' str_i =>
   have hbA : Below (w4).heap.size (w4) ((w4).alloc (.cells #[.int .u64 0, .slice none 0 0, .slice none 0 0] 48)) := bAl
   have HZ : Hid (Blk ((w4).alloc (.cells #[.int .u64 0, .slice none 0 0, .slice none 0 0] 48)) (w4).heap.size 48 #[.int .u64 0, .slice none 0 0, .slice none 0 0]) := hHd (Blk.new _ _ _)
   have HL := hHd (HL.out.below hbA HL.out.lt)
   have HO := hHd (HO.out.below stays_I hbA)
   have HDV := hHd (dataI_on HDV.out hbA)
   have HKV := hHd (fv_on HKV.out hbA)
   have HW := hHd (HW.out.trans (hbA.mono HW.out.size))
   clear hbA
   go_simp
   refine hK.out _ _ ?sr_i (fun hS => ?_)
   case sr_i => (exact ⟨hS.1.alloc _, hS.2.1.alloc _, hS.2.2.alloc _⟩)
   clear hK K
   (try simp only [Act.put, layS])
   refine rdy1 0 fun K hK => ?_
   have y0 : ((w4.alloc (.cells #[.int .u64 0, .slice none 0 0, .slice none 0 0] 48))).cell? ⟨lb, 0, none⟩ = some (.slice Av nF cv) := (HL.out.cell 0).trans rfl
   go_simp
   refine hK.out _ _ ?sr_p (fun hS => ?_)
   case sr_p => (exact hS)
   clear hK K
   (try simp only [Act.put, layS])
   clear y0
   refine tkH 5 hS ?_
   refine rdy1 7 fun K hK => ?_
   refine wp_append_it stays_I one_I Tryz.underlying39 Tryz.infoT zeroI3 (.tmp 10) (.tmp 16) (by rfl) (by rfl) (lb + 1) (.slice Av nF cv) F (by rfl) HO.out _ (by rfl) 0 [] .nil (.slice none 0 0) (.slice none 0 0) HZ.out (by decide) (dataI_nil _ _) (FV.nil _ _) ?_ ?_ ?_ ?_
   ·have := HFL.out.1; omega
   ·have := HFL.out.1; omega
   ·exact HL.out.lt
   intro v7 w7 hap
   obtain ⟨g7, c7, h7⟩ := hap.2.2.2
   obtain ⟨n7, hn7⟩ : ∃ n, n = (F.app (.cons 0 [] .nil .nil)).len := ⟨_, rfl⟩
   rw [← hn7] at h7
   subst h7
   have hn8 : n7 = F.len + 1 := by rw [hn7, Fo.len_app]; rfl
   have hE := col_end (tb := tb) hn8 HNB.out.2.2.2.2.2 (HW.out.mono (Nat.le_of_lt HNB.out.1)) (fun g hg _ _ => HW.out.block g hg) HLT.out HL.out HO.out hap HDV.out HKV.out
   rw [← HFL.out.2] at hE
   have j2 : (nF : Int) < (n7 : Int) := by have := HFL.out.2; omega
   have HI7 : Hid (∀ j, j < 3 → nF * 3 + j < n7 * 3) := hHd (fun j hj => by have := HFL.out.2; omega)
   have hS7 : Blk w7 ib 61 (cT nm kd ty lo hi ns mu mo B m A q.len c) ∧ Blk w7 tb 22 #[.int .u64 (t : Int)] ∧ Blk w7 w.heap.size 27 (cN a (.slice Ak k.len ck)) := ⟨hS.1.grown hap.2.1 NE1.out.1, hS.2.1.grown hap.2.1 NE1.out.2.1, hS.2.2.grown hap.2.1 NE1.out.2.2⟩
   have hib7 : ib ≠ g7 ∧ tb ≠ g7 ∧ w.heap.size ≠ g7 := ⟨fun e => hap.1.ne hS7.1 (by decide) (by rw [e]; rfl), fun e => hap.1.ne hS7.2.1 (by decide) (by rw [e]; rfl), fun e => hap.1.ne hS7.2.2 (by decide) (by rw [e]; rfl)⟩
   have HS7 := hHd hS7
   have HG7 := hHd hap.2.1
   have HE := hHd hE
   have HN7 := hHd hib7
   clear hE hap hn7 hn8 hib7 hS7
   refine hK.out _ _ ?sr_q (fun hS => ?_)
   case sr_q => (exact HS7.out)
   clear hK K
   (try simp only [Act.put, layS])
   refine tkH 8 hS ?_
   refine rdy [9, 10] (rdC (fun K hK => ?str_r) (rdC (fun K hK => ?str_s) .nil))
   case' str_r =>
    obtain ⟨u0, hu0⟩ := HE.out.2.1 (nF * 3) (HI7.out 0 (by decide))
    obtain ⟨u1, hu1⟩ := HE.out.2.1 (nF * 3 + 1) (HI7.out 1 (by decide))
    obtain ⟨u2, hu2⟩ := HE.out.2.1 (nF * 3 + 2) (HI7.out 2 (by decide))
    have fz0 := HE.out.2.2.1 (nF * 3)
    have fz1 := HE.out.2.2.1 (nF * 3 + 1)
    have fz2 := HE.out.2.2.1 (nF * 3 + 2)
    go_simp
    refine hK.out _ _ ?sr_r (fun hS => ?_)
    case sr_r => (exact ⟨((hS.1.far (p := ⟨g7, _, none⟩) HN7.out.1 _).far (p := ⟨g7, _, none⟩) HN7.out.1 _).far (p := ⟨g7, _, none⟩) HN7.out.1 _, ((hS.2.1.far (p := ⟨g7, _, none⟩) HN7.out.2.1 _).far (p := ⟨g7, _, none⟩) HN7.out.2.1 _).far (p := ⟨g7, _, none⟩) HN7.out.2.1 _, ((hS.2.2.far (p := ⟨g7, _, none⟩) HN7.out.2.2 _).far (p := ⟨g7, _, none⟩) HN7.out.2.2 _).far (p := ⟨g7, _, none⟩) HN7.out.2.2 _⟩)
    clear hK K
    (try simp only [Act.put, layS])
    clear hu0 hu1 hu2 fz0 fz1 fz2
    refine rdy1 10 fun K hK => ?_
    have hl9 : Blk (set3o w7 g7 (nF * 3) (.int .u64 (t : Int)) (.slice A1 D.length c1) (.slice A2 G.len c2)) lb 39 #[.slice Av nF cv] := (set3o_far (Nat.ne_of_lt HE.out.2.2.2.1)).trans HE.out.1
    unfold set3o at hl9
    have lq := (hl9.cell 0).trans rfl
    have lf := hl9.frozen 0
    clear hl9
    go_simp
    refine hK.out _ _ ?sr_t (fun hS => ?_)
    case sr_t => (exact ⟨hS.1.far (p := ⟨lb, _, none⟩) HNB.out.2.2.2.1 _, hS.2.1.far (p := ⟨lb, _, none⟩) HNB.out.2.2.2.2.1 _, hS.2.2.far (p := ⟨lb, _, none⟩) (by have := HNB.out.1; show w.heap.size ≠ lb; omega) _⟩)
    clear hK K
    (try simp only [Act.put, layS])
    clear lq lf
    have HF := hHd HE.out.2.2.2.2
    unfold set3o at HF
    refine wpAnyH_done (by kernel_rfl) ?_ _
    refine NoPanic.normal ?_
   case' str_s =>
    have hl9 := HE.out.1
    have lq := (hl9.cell 0).trans rfl
    have lf := hl9.frozen 0
    clear hl9
    go_simp
    refine hK.out _ _ ?sr_s (fun hS => ?_)
    case sr_s => (exact ⟨hS.1.far (p := ⟨lb, _, none⟩) HNB.out.2.2.2.1 _, hS.2.1.far (p := ⟨lb, _, none⟩) HNB.out.2.2.2.2.1 _, hS.2.2.far (p := ⟨lb, _, none⟩) (by have := HNB.out.1; show w.heap.size ≠ lb; omega) _⟩)
    clear hK K
    (try simp only [Act.put, layS])
    clear lq lf
    refine rdy1 9 fun K hK => ?_
    obtain ⟨u0, hu0⟩ := HE.out.2.1 (nF * 3) (HI7.out 0 (by decide))
    obtain ⟨u1, hu1⟩ := HE.out.2.1 (nF * 3 + 1) (HI7.out 1 (by decide))
    obtain ⟨u2, hu2⟩ := HE.out.2.1 (nF * 3 + 2) (HI7.out 2 (by decide))
    have fz0 := HE.out.2.2.1 (nF * 3)
    have fz1 := HE.out.2.2.1 (nF * 3 + 1)
    have fz2 := HE.out.2.2.1 (nF * 3 + 2)
    rw [← far_cell (Nat.ne_of_gt HE.out.2.2.2.1) (.slice (some ⟨g7, 0, none⟩) n7 c7)] at hu0 hu1 hu2
    rw [← far_frozen (Nat.ne_of_gt HE.out.2.2.2.1) (.slice (some ⟨g7, 0, none⟩) n7 c7)] at fz0 fz1 fz2
    go_simp
    refine hK.out _ _ ?sr_u (fun hS => ?_)
    case sr_u => (exact ⟨((hS.1.far (p := ⟨g7, _, none⟩) HN7.out.1 _).far (p := ⟨g7, _, none⟩) HN7.out.1 _).far (p := ⟨g7, _, none⟩) HN7.out.1 _, ((hS.2.1.far (p := ⟨g7, _, none⟩) HN7.out.2.1 _).far (p := ⟨g7, _, none⟩) HN7.out.2.1 _).far (p := ⟨g7, _, none⟩) HN7.out.2.1 _, ((hS.2.2.far (p := ⟨g7, _, none⟩) HN7.out.2.2 _).far (p := ⟨g7, _, none⟩) HN7.out.2.2 _).far (p := ⟨g7, _, none⟩) HN7.out.2.2 _⟩)
    clear hK K
    (try simp only [Act.put, layS])
    clear hu0 hu1 hu2 fz0 fz1 fz2
    have hF := HE.out.2.2.2.2
    rw [← set3o_comm HE.out.2.2.2.1] at hF
    have HF := hHd hF
    unfold set3o at HF
    clear hF
    refine wpAnyH_done (by kernel_rfl) ?_ _
    refine NoPanic.normal ?_
 case' str_2 =>
  have hbA : Below (w1.drew).heap.size (w1.drew) ((w1.drew).alloc (.cells #[.int .u64 0, .slice none 0 0, .slice none 0 0] 48)) := bAl
  have HZ : Hid (Blk ((w1.drew).alloc (.cells #[.int .u64 0, .slice none 0 0, .slice none 0 0] 48)) (w1.drew).heap.size 48 #[.int .u64 0, .slice none 0 0, .slice none 0 0]) := hHd (Blk.new _ _ _)
  have HL := hHd (HL.out.below hbA HL.out.lt)
  have HO := hHd (HO.out.below stays_I hbA)
  have HW := hHd (HW.out.trans (hbA.mono HW.out.size))
  clear hbA
  go_simp
  refine hK.out _ _ ?sr_2 (fun hS => ?_)
  case sr_2 => (exact ⟨hS.1.alloc _, hS.2.1.alloc _, hS.2.2.alloc _⟩)
  clear hK K
  (try simp only [Act.put, layS])
  refine rdy [0, 4] (rdC (fun K hK => ?str_v) (rdC (fun K hK => ?str_w) .nil))
  case' str_v =>
   have y0 : ((w1.alloc (.cells #[.int .u64 0, .slice none 0 0, .slice none 0 0] 48))).cell? ⟨lb, 0, none⟩ = some (.slice Av nF cv) := (HL.out.cell 0).trans rfl
   go_simp
   refine hK.out _ _ ?sr_v (fun hS => ?_)
   case sr_v => (exact hS)
   clear hK K
   (try simp only [Act.put, layS])
   clear y0
   refine tkH 5 hS ?_
   refine rdy1 4 fun K hK => ?_
   go_simp
   refine (HC.out _ HW.out).mono ?_
   rintro r w4 ⟨dv, kv, rfl, hdv, hkv, hb4⟩
   obtain ⟨A1, c1, rfl⟩ : ∃ A1 c1, dv = .slice A1 D.length c1 := by obtain ⟨_, ⟨A1, c1, e, _⟩, _⟩ := hdv; exact ⟨A1, c1, e⟩
   obtain ⟨A2, c2, rfl⟩ := hkv.shape
   have HDV := hHd (dataI_its (lb := lb) (v := .slice Av nF cv) hdv (Nat.lt_of_lt_of_le HNB.out.1 HW.out.size) (fun b hb => Nat.lt_of_lt_of_le (HLT.out b hb) HW.out.size))
   have HKV := hHd (fv_its (lb := lb) (v := .slice Av nF cv) hkv (Nat.lt_of_lt_of_le HNB.out.1 HW.out.size) (fun b hb => Nat.lt_of_lt_of_le (HLT.out b hb) HW.out.size))
   have HL := hHd (HL.out.below hb4 HL.out.lt)
   have HO := hHd (HO.out.below stays_I hb4)
   have HZ := hHd (HZ.out.below hb4 HZ.out.lt)
   have HW := hHd (HW.out.trans (hb4.mono HW.out.size))
   have hS4 : Blk w4 ib 61 (cT nm kd ty lo hi ns mu mo B m A q.len c) ∧ Blk w4 tb 22 #[.int .u64 (t : Int)] ∧ Blk w4 w.heap.size 27 (cN a (.slice Ak k.len ck)) := ⟨hS.1.below hb4 hS.1.lt, hS.2.1.below hb4 hS.2.1.lt, hS.2.2.below hb4 hS.2.2.lt⟩
   have HS4 := hHd hS4
   clear hb4 hdv hkv hS4
   go_wp2_with fail
   refine hK.out _ _ ?sr_x (fun hS => ?_)
   case sr_x => (exact HS4.out)
   clear hK K
   (try simp only [Act.put, layS])
   refine rdy1 7 fun K hK => ?_
   refine wp_append_it stays_I one_I Tryz.underlying39 Tryz.infoT zeroI3 (.tmp 10) (.tmp 16) (by rfl) (by rfl) (lb + 1) (.slice Av nF cv) F (by rfl) HO.out _ (by rfl) 0 [] .nil (.slice none 0 0) (.slice none 0 0) HZ.out (by decide) (dataI_nil _ _) (FV.nil _ _) ?_ ?_ ?_ ?_
   ·have := HFL.out.1; omega
   ·have := HFL.out.1; omega
   ·exact HL.out.lt
   intro v7 w7 hap
   obtain ⟨g7, c7, h7⟩ := hap.2.2.2
   obtain ⟨n7, hn7⟩ : ∃ n, n = (F.app (.cons 0 [] .nil .nil)).len := ⟨_, rfl⟩
   rw [← hn7] at h7
   subst h7
   have hn8 : n7 = F.len + 1 := by rw [hn7, Fo.len_app]; rfl
   have hE := col_end (tb := tb) hn8 HNB.out.2.2.2.2.2 (HW.out.mono (Nat.le_of_lt HNB.out.1)) (fun g hg _ _ => HW.out.block g hg) HLT.out HL.out HO.out hap HDV.out HKV.out
   rw [← HFL.out.2] at hE
   have j2 : (nF : Int) < (n7 : Int) := by have := HFL.out.2; omega
   have HI7 : Hid (∀ j, j < 3 → nF * 3 + j < n7 * 3) := hHd (fun j hj => by have := HFL.out.2; omega)
   have hS7 : Blk w7 ib 61 (cT nm kd ty lo hi ns mu mo B m A q.len c) ∧ Blk w7 tb 22 #[.int .u64 (t : Int)] ∧ Blk w7 w.heap.size 27 (cN a (.slice Ak k.len ck)) := ⟨hS.1.grown hap.2.1 NE1.out.1, hS.2.1.grown hap.2.1 NE1.out.2.1, hS.2.2.grown hap.2.1 NE1.out.2.2⟩
   have hib7 : ib ≠ g7 ∧ tb ≠ g7 ∧ w.heap.size ≠ g7 := ⟨fun e => hap.1.ne hS7.1 (by decide) (by rw [e]; rfl), fun e => hap.1.ne hS7.2.1 (by decide) (by rw [e]; rfl), fun e => hap.1.ne hS7.2.2 (by decide) (by rw [e]; rfl)⟩
   have HS7 := hHd hS7
   have HG7 := hHd hap.2.1
   have HE := hHd hE
   have HN7 := hHd hib7
   clear hE hap hn7 hn8 hib7 hS7
   refine hK.out _ _ ?sr_y (fun hS => ?_)
   case sr_y => (exact HS7.out)
   clear hK K
   (try simp only [Act.put, layS])
   refine tkH 8 hS ?_
   refine rdy [9, 10] (rdC (fun K hK => ?str_z) (rdC (fun K hK => ?str_10) .nil))
   case' str_z =>
    obtain ⟨u0, hu0⟩ := HE.out.2.1 (nF * 3) (HI7.out 0 (by decide))
    obtain ⟨u1, hu1⟩ := HE.out.2.1 (nF * 3 + 1) (HI7.out 1 (by decide))
    obtain ⟨u2, hu2⟩ := HE.out.2.1 (nF * 3 + 2) (HI7.out 2 (by decide))
    have fz0 := HE.out.2.2.1 (nF * 3)
    have fz1 := HE.out.2.2.1 (nF * 3 + 1)
    have fz2 := HE.out.2.2.1 (nF * 3 + 2)
    go_simp
    refine hK.out _ _ ?sr_z (fun hS => ?_)
    case sr_z => (exact ⟨((hS.1.far (p := ⟨g7, _, none⟩) HN7.out.1 _).far (p := ⟨g7, _, none⟩) HN7.out.1 _).far (p := ⟨g7, _, none⟩) HN7.out.1 _, ((hS.2.1.far (p := ⟨g7, _, none⟩) HN7.out.2.1 _).far (p := ⟨g7, _, none⟩) HN7.out.2.1 _).far (p := ⟨g7, _, none⟩) HN7.out.2.1 _, ((hS.2.2.far (p := ⟨g7, _, none⟩) HN7.out.2.2 _).far (p := ⟨g7, _, none⟩) HN7.out.2.2 _).far (p := ⟨g7, _, none⟩) HN7.out.2.2 _⟩)
    clear hK K
    (try simp only [Act.put, layS])
    clear hu0 hu1 hu2 fz0 fz1 fz2
    refine rdy1 10 fun K hK => ?_
    have hl9 : Blk (set3o w7 g7 (nF * 3) (.int .u64 (t : Int)) (.slice A1 D.length c1) (.slice A2 G.len c2)) lb 39 #[.slice Av nF cv] := (set3o_far (Nat.ne_of_lt HE.out.2.2.2.1)).trans HE.out.1
    unfold set3o at hl9
    have lq := (hl9.cell 0).trans rfl
    have lf := hl9.frozen 0
    clear hl9
    go_simp
    refine hK.out _ _ ?sr_11 (fun hS => ?_)
    case sr_11 => (exact ⟨hS.1.far (p := ⟨lb, _, none⟩) HNB.out.2.2.2.1 _, hS.2.1.far (p := ⟨lb, _, none⟩) HNB.out.2.2.2.2.1 _, hS.2.2.far (p := ⟨lb, _, none⟩) (by have := HNB.out.1; show w.heap.size ≠ lb; omega) _⟩)
    clear hK K
    (try simp only [Act.put, layS])
    clear lq lf
    have HF := hHd HE.out.2.2.2.2
    unfold set3o at HF
    refine wpAnyH_done (by kernel_rfl) ?_ _
    refine NoPanic.normal ?_
   case' str_10 =>
    have hl9 := HE.out.1
    have lq := (hl9.cell 0).trans rfl
    have lf := hl9.frozen 0
    clear hl9
    go_simp
    refine hK.out _ _ ?sr_10 (fun hS => ?_)
    case sr_10 => (exact ⟨hS.1.far (p := ⟨lb, _, none⟩) HNB.out.2.2.2.1 _, hS.2.1.far (p := ⟨lb, _, none⟩) HNB.out.2.2.2.2.1 _, hS.2.2.far (p := ⟨lb, _, none⟩) (by have := HNB.out.1; show w.heap.size ≠ lb; omega) _⟩)
    clear hK K
    (try simp only [Act.put, layS])
    clear lq lf
    refine rdy1 9 fun K hK => ?_
    obtain ⟨u0, hu0⟩ := HE.out.2.1 (nF * 3) (HI7.out 0 (by decide))
    obtain ⟨u1, hu1⟩ := HE.out.2.1 (nF * 3 + 1) (HI7.out 1 (by decide))
    obtain ⟨u2, hu2⟩ := HE.out.2.1 (nF * 3 + 2) (HI7.out 2 (by decide))
    have fz0 := HE.out.2.2.1 (nF * 3)
    have fz1 := HE.out.2.2.1 (nF * 3 + 1)
    have fz2 := HE.out.2.2.1 (nF * 3 + 2)
    rw [← far_cell (Nat.ne_of_gt HE.out.2.2.2.1) (.slice (some ⟨g7, 0, none⟩) n7 c7)] at hu0 hu1 hu2
    rw [← far_frozen (Nat.ne_of_gt HE.out.2.2.2.1) (.slice (some ⟨g7, 0, none⟩) n7 c7)] at fz0 fz1 fz2
    go_simp
    refine hK.out _ _ ?sr_12 (fun hS => ?_)
    case sr_12 => (exact ⟨((hS.1.far (p := ⟨g7, _, none⟩) HN7.out.1 _).far (p := ⟨g7, _, none⟩) HN7.out.1 _).far (p := ⟨g7, _, none⟩) HN7.out.1 _, ((hS.2.1.far (p := ⟨g7, _, none⟩) HN7.out.2.1 _).far (p := ⟨g7, _, none⟩) HN7.out.2.1 _).far (p := ⟨g7, _, none⟩) HN7.out.2.1 _, ((hS.2.2.far (p := ⟨g7, _, none⟩) HN7.out.2.2 _).far (p := ⟨g7, _, none⟩) HN7.out.2.2 _).far (p := ⟨g7, _, none⟩) HN7.out.2.2 _⟩)
    clear hK K
    (try simp only [Act.put, layS])
    clear hu0 hu1 hu2 fz0 fz1 fz2
    have hF := HE.out.2.2.2.2
    rw [← set3o_comm HE.out.2.2.2.1] at hF
    have HF := hHd hF
    unfold set3o at HF
    clear hF
    refine wpAnyH_done (by kernel_rfl) ?_ _
    refine NoPanic.normal ?_
  case' str_w =>
   go_simp
   refine (HC.out _ HW.out).mono ?_
   rintro r w4 ⟨dv, kv, rfl, hdv, hkv, hb4⟩
   obtain ⟨A1, c1, rfl⟩ : ∃ A1 c1, dv = .slice A1 D.length c1 := by obtain ⟨_, ⟨A1, c1, e, _⟩, _⟩ := hdv; exact ⟨A1, c1, e⟩
   obtain ⟨A2, c2, rfl⟩ := hkv.shape
   have HDV := hHd (dataI_its (lb := lb) (v := .slice Av nF cv) hdv (Nat.lt_of_lt_of_le HNB.out.1 HW.out.size) (fun b hb => Nat.lt_of_lt_of_le (HLT.out b hb) HW.out.size))
   have HKV := hHd (fv_its (lb := lb) (v := .slice Av nF cv) hkv (Nat.lt_of_lt_of_le HNB.out.1 HW.out.size) (fun b hb => Nat.lt_of_lt_of_le (HLT.out b hb) HW.out.size))
   have HL := hHd (HL.out.below hb4 HL.out.lt)
   have HO := hHd (HO.out.below stays_I hb4)
   have HZ := hHd (HZ.out.below hb4 HZ.out.lt)
   have HW := hHd (HW.out.trans (hb4.mono HW.out.size))
   have hS4 : Blk w4 ib 61 (cT nm kd ty lo hi ns mu mo B m A q.len c) ∧ Blk w4 tb 22 #[.int .u64 (t : Int)] ∧ Blk w4 w.heap.size 27 (cN a (.slice Ak k.len ck)) := ⟨hS.1.below hb4 hS.1.lt, hS.2.1.below hb4 hS.2.1.lt, hS.2.2.below hb4 hS.2.2.lt⟩
   have HS4 := hHd hS4
   clear hb4 hdv hkv hS4
   go_wp2_with fail
   refine hK.out _ _ ?sr_w (fun hS => ?_)
   case sr_w => (exact HS4.out)
   clear hK K
   (try simp only [Act.put, layS])
   refine rdy1 0 fun K hK => ?_
   have y0 : (w4).cell? ⟨lb, 0, none⟩ = some (.slice Av nF cv) := (HL.out.cell 0).trans rfl
   go_simp
   refine hK.out _ _ ?sr_13 (fun hS => ?_)
   case sr_13 => (exact hS)
   clear hK K
   (try simp only [Act.put, layS])
   clear y0
   refine tkH 5 hS ?_
   refine rdy1 7 fun K hK => ?_
   refine wp_append_it stays_I one_I Tryz.underlying39 Tryz.infoT zeroI3 (.tmp 10) (.tmp 16) (by rfl) (by rfl) (lb + 1) (.slice Av nF cv) F (by rfl) HO.out _ (by rfl) 0 [] .nil (.slice none 0 0) (.slice none 0 0) HZ.out (by decide) (dataI_nil _ _) (FV.nil _ _) ?_ ?_ ?_ ?_
   ·have := HFL.out.1; omega
   ·have := HFL.out.1; omega
   ·exact HL.out.lt
   intro v7 w7 hap
   obtain ⟨g7, c7, h7⟩ := hap.2.2.2
   obtain ⟨n7, hn7⟩ : ∃ n, n = (F.app (.cons 0 [] .nil .nil)).len := ⟨_, rfl⟩
   rw [← hn7] at h7
   subst h7
   have hn8 : n7 = F.len + 1 := by rw [hn7, Fo.len_app]; rfl
   have hE := col_end (tb := tb) hn8 HNB.out.2.2.2.2.2 (HW.out.mono (Nat.le_of_lt HNB.out.1)) (fun g hg _ _ => HW.out.block g hg) HLT.out HL.out HO.out hap HDV.out HKV.out
   rw [← HFL.out.2] at hE
   have j2 : (nF : Int) < (n7 : Int) := by have := HFL.out.2; omega
   have HI7 : Hid (∀ j, j < 3 → nF * 3 + j < n7 * 3) := hHd (fun j hj => by have := HFL.out.2; omega)
   have hS7 : Blk w7 ib 61 (cT nm kd ty lo hi ns mu mo B m A q.len c) ∧ Blk w7 tb 22 #[.int .u64 (t : Int)] ∧ Blk w7 w.heap.size 27 (cN a (.slice Ak k.len ck)) := ⟨hS.1.grown hap.2.1 NE1.out.1, hS.2.1.grown hap.2.1 NE1.out.2.1, hS.2.2.grown hap.2.1 NE1.out.2.2⟩
   have hib7 : ib ≠ g7 ∧ tb ≠ g7 ∧ w.heap.size ≠ g7 := ⟨fun e => hap.1.ne hS7.1 (by decide) (by rw [e]; rfl), fun e => hap.1.ne hS7.2.1 (by decide) (by rw [e]; rfl), fun e => hap.1.ne hS7.2.2 (by decide) (by rw [e]; rfl)⟩
   have HS7 := hHd hS7
   have HG7 := hHd hap.2.1
   have HE := hHd hE
   have HN7 := hHd hib7
   clear hE hap hn7 hn8 hib7 hS7
   refine hK.out _ _ ?sr_14 (fun hS => ?_)
   case sr_14 => (exact HS7.out)
   clear hK K
   (try simp only [Act.put, layS])
   refine tkH 8 hS ?_
   refine rdy [9, 10] (rdC (fun K hK => ?str_15) (rdC (fun K hK => ?str_16) .nil))
   case' str_15 =>
    obtain ⟨u0, hu0⟩ := HE.out.2.1 (nF * 3) (HI7.out 0 (by decide))
    obtain ⟨u1, hu1⟩ := HE.out.2.1 (nF * 3 + 1) (HI7.out 1 (by decide))
    obtain ⟨u2, hu2⟩ := HE.out.2.1 (nF * 3 + 2) (HI7.out 2 (by decide))
    have fz0 := HE.out.2.2.1 (nF * 3)
    have fz1 := HE.out.2.2.1 (nF * 3 + 1)
    have fz2 := HE.out.2.2.1 (nF * 3 + 2)
    go_simp
    refine hK.out _ _ ?sr_15 (fun hS => ?_)
    case sr_15 => (exact ⟨((hS.1.far (p := ⟨g7, _, none⟩) HN7.out.1 _).far (p := ⟨g7, _, none⟩) HN7.out.1 _).far (p := ⟨g7, _, none⟩) HN7.out.1 _, ((hS.2.1.far (p := ⟨g7, _, none⟩) HN7.out.2.1 _).far (p := ⟨g7, _, none⟩) HN7.out.2.1 _).far (p := ⟨g7, _, none⟩) HN7.out.2.1 _, ((hS.2.2.far (p := ⟨g7, _, none⟩) HN7.out.2.2 _).far (p := ⟨g7, _, none⟩) HN7.out.2.2 _).far (p := ⟨g7, _, none⟩) HN7.out.2.2 _⟩)
    clear hK K
    (try simp only [Act.put, layS])
    clear hu0 hu1 hu2 fz0 fz1 fz2
    refine rdy1 10 fun K hK => ?_
    have hl9 : Blk (set3o w7 g7 (nF * 3) (.int .u64 (t : Int)) (.slice A1 D.length c1) (.slice A2 G.len c2)) lb 39 #[.slice Av nF cv] := (set3o_far (Nat.ne_of_lt HE.out.2.2.2.1)).trans HE.out.1
    unfold set3o at hl9
    have lq := (hl9.cell 0).trans rfl
    have lf := hl9.frozen 0
    clear hl9
    go_simp
    refine hK.out _ _ ?sr_17 (fun hS => ?_)
    case sr_17 => (exact ⟨hS.1.far (p := ⟨lb, _, none⟩) HNB.out.2.2.2.1 _, hS.2.1.far (p := ⟨lb, _, none⟩) HNB.out.2.2.2.2.1 _, hS.2.2.far (p := ⟨lb, _, none⟩) (by have := HNB.out.1; show w.heap.size ≠ lb; omega) _⟩)
    clear hK K
    (try simp only [Act.put, layS])
    clear lq lf
    have HF := hHd HE.out.2.2.2.2
    unfold set3o at HF
    refine wpAnyH_done (by kernel_rfl) ?_ _
    refine NoPanic.normal ?_
   case' str_16 =>
    have hl9 := HE.out.1
    have lq := (hl9.cell 0).trans rfl
    have lf := hl9.frozen 0
    clear hl9
    go_simp
    refine hK.out _ _ ?sr_16 (fun hS => ?_)
    case sr_16 => (exact ⟨hS.1.far (p := ⟨lb, _, none⟩) HNB.out.2.2.2.1 _, hS.2.1.far (p := ⟨lb, _, none⟩) HNB.out.2.2.2.2.1 _, hS.2.2.far (p := ⟨lb, _, none⟩) (by have := HNB.out.1; show w.heap.size ≠ lb; omega) _⟩)
    clear hK K
    (try simp only [Act.put, layS])
    clear lq lf
    refine rdy1 9 fun K hK => ?_
    obtain ⟨u0, hu0⟩ := HE.out.2.1 (nF * 3) (HI7.out 0 (by decide))
    obtain ⟨u1, hu1⟩ := HE.out.2.1 (nF * 3 + 1) (HI7.out 1 (by decide))
    obtain ⟨u2, hu2⟩ := HE.out.2.1 (nF * 3 + 2) (HI7.out 2 (by decide))
    have fz0 := HE.out.2.2.1 (nF * 3)
    have fz1 := HE.out.2.2.1 (nF * 3 + 1)
    have fz2 := HE.out.2.2.1 (nF * 3 + 2)
    rw [← far_cell (Nat.ne_of_gt HE.out.2.2.2.1) (.slice (some ⟨g7, 0, none⟩) n7 c7)] at hu0 hu1 hu2
    rw [← far_frozen (Nat.ne_of_gt HE.out.2.2.2.1) (.slice (some ⟨g7, 0, none⟩) n7 c7)] at fz0 fz1 fz2
    go_simp
    refine hK.out _ _ ?sr_18 (fun hS => ?_)
    case sr_18 => (exact ⟨((hS.1.far (p := ⟨g7, _, none⟩) HN7.out.1 _).far (p := ⟨g7, _, none⟩) HN7.out.1 _).far (p := ⟨g7, _, none⟩) HN7.out.1 _, ((hS.2.1.far (p := ⟨g7, _, none⟩) HN7.out.2.1 _).far (p := ⟨g7, _, none⟩) HN7.out.2.1 _).far (p := ⟨g7, _, none⟩) HN7.out.2.1 _, ((hS.2.2.far (p := ⟨g7, _, none⟩) HN7.out.2.2 _).far (p := ⟨g7, _, none⟩) HN7.out.2.2 _).far (p := ⟨g7, _, none⟩) HN7.out.2.2 _⟩)
    clear hK K
    (try simp only [Act.put, layS])
    clear hu0 hu1 hu2 fz0 fz1 fz2
    have hF := HE.out.2.2.2.2
    rw [← set3o_comm HE.out.2.2.2.1] at hF
    have HF := hHd hF
    unfold set3o at HF
    clear hF
    refine wpAnyH_done (by kernel_rfl) ?_ _
    refine NoPanic.normal ?_
 all_goals (clear hS; go_wp2; go_end0; exact HF.out)
end Go.Proofs.YtodlhgflfcadmaaGreat
