/- EdtFew SpcRefC -/
import Derived.Test.YtleidkpdpabkpaaGreatDoorBM13
set_option linter.unusedSimpArgs false
set_option linter.unusedVariables false
set_option maxRecDepth 100000
set_option maxHeartbeats 8000000
namespace Go.Proofs.YtleidkpdpabkpaaGreatDoor
open Go.RowKit
theorem V18_lt (s : List UInt8) : V18 s < 18446744073709551616 := by
 unfold V18
 split
 ·rename_i h
  have h1 := valB_lt (strip18 s)
  have h2 : 256 ^ (strip18 s).length ≤ 256 ^ 8 := Nat.pow_le_pow_right (by decide) h
  have h3 : (256 : Nat) ^ 8 = 18446744073709551616 := by decide
  omega
 ·decide
theorem dat_len18 (t : Nat) : ∀ k : Fo, (dat18 t k).length ≤ k.sz := by
 intro k
 induction k with
 | nil => exact Nat.le_refl _
 | cons u d q r _ ih => simp only [dat18, Fo.sz]; split <;> omega
theorem kid_ok18 (k : Fo) (h : k.sz ≤ 1000000) : OkD (kid18 V18 k) ∧ (kid18 V18 k).name = dat18 0 k ∧ (kid18 V18 k).key = dat18 2 k ∧ (kid18 V18 k).text.length ≤ (dat18 4 k).length := by
 have h0 := dat_len18 0 k
 have h2 := dat_len18 2 k
 have h4 := dat_len18 4 k
 unfold kid18
 rcases hd : dat18 4 k with _ | ⟨x, _ | ⟨y, s⟩⟩
 ·exact ⟨⟨by simp only; omega, by simp only; omega, by simp, by simp, by simp, by simp⟩, rfl, rfl, by simp⟩
 ·exact ⟨⟨by simp only; omega, by simp only; omega, by simp, by simp, by simp, by simp⟩, rfl, rfl, by simp⟩
 ·rw [hd] at h4
  simp only [List.length_cons] at h4
  have hx := byte_lt x
  by_cases hy : y = 0
  ·simp only [if_pos hy]
   exact ⟨⟨by simp only; omega, by simp only; omega, by simp only; omega, by simp only; omega, V18_lt s, by simp⟩, trivial, trivial, by simp⟩
  ·simp only [if_neg hy]
   exact ⟨⟨by simp only; omega, by simp only; omega, by simp only; omega, by simp only; omega, by simp, by simp only; omega⟩, trivial, trivial, by simp; omega⟩
theorem red_ok18 : ∀ k : Fo, k.sz ≤ 1000000 → OkF (red18 V18 k) ∧ (red18 V18 k).size ≤ k.sz := by
 intro k
 induction k with
 | nil => intro _; exact ⟨trivial, Nat.le_refl _⟩
 | cons t d q r ihq ihr =>
  intro h
  simp only [Fo.sz] at h
  obtain ⟨r1, r2⟩ := ihr (by omega)
  obtain ⟨q1, q2⟩ := ihq (by omega)
  simp only [red18, Fo.sz]
  split
  ·exact ⟨⟨(kid_ok18 q (by omega)).1, q1, r1⟩, by simp only [Fr.size]; omega⟩
  ·exact ⟨r1, by omega⟩
theorem least_len18b (x : Nat) (h : x < 18446744073709551616) : (leastB x).length ≤ 8 := by
 unfold leastB
 rw [bigB_length]
 exact (lenB_spec 8 x (by omega)).2.2
theorem inI_sz18 (a : NdD) (r : Fo) (h : a.num < 18446744073709551616) : (inI18 leastB a r).sz ≤ 13 + a.name.length + a.key.length + a.text.length + r.sz := by
 have h8 := least_len18b a.num h
 have hv : (valI18 leastB a r).sz ≤ 11 + a.text.length + r.sz := by
  unfold valI18 valT18
  split
  ·omega
  ·split <;> simp only [Fo.sz, List.length_cons] <;> omega
 unfold inI18 keyI18
 simp only [Fo.sz]
 split
 ·omega
 ·simp only [Fo.sz]; omega
theorem red_sz18 : ∀ k : Fo, k.sz ≤ 1000000 → (dat18 0 k).length + (dat18 2 k).length + (dat18 4 k).length + (itmF18 leastB (red18 V18 k)).sz ≤ 15 * k.sz := by
 intro k
 induction k with
 | nil => intro _; exact Nat.le_refl _
 | cons t d q r ihq ihr =>
  intro h
  simp only [Fo.sz] at h
  have r1 := ihr (by omega)
  have q1 := ihq (by omega)
  obtain ⟨ok, e1, e2, e3⟩ := kid_ok18 q (by omega)
  have hin := inI_sz18 (kid18 V18 q) (itmF18 leastB (red18 V18 q)) ok.num
  rw [e1, e2] at hin
  simp only [dat18, red18, Fo.sz]
  by_cases t7 : t = 7
  ·subst t7
   simp only [if_pos, itmF18, Fo.sz, List.length_nil, show ¬ (7 : Nat) = 0 by decide, show ¬ (7 : Nat) = 2 by decide, show ¬ (7 : Nat) = 4 by decide, if_false]
   omega
  ·simp only [if_neg t7]
   by_cases t0 : t = 0
   ·subst t0; simp only [if_pos, show ¬ (0 : Nat) = 2 by decide, show ¬ (0 : Nat) = 4 by decide, if_false]; omega
   ·by_cases t2 : t = 2
    ·subst t2; simp only [if_pos, show ¬ (2 : Nat) = 0 by decide, show ¬ (2 : Nat) = 4 by decide, if_false]; omega
    ·by_cases t4 : t = 4
     ·subst t4; simp only [if_pos, show ¬ (4 : Nat) = 0 by decide, show ¬ (4 : Nat) = 2 by decide, if_false]; omega
     ·simp only [if_neg t0, if_neg t2, if_neg t4]; omega
theorem read_ok18 (t : Nat) : ∀ k : Fo, k.sz ≤ 1000000 → OkN (read18 V18 t k) ∧ (read18 V18 t k).2.size ≤ k.sz ∧ (inI18 leastB (read18 V18 t k).1 (itmF18 leastB (read18 V18 t k).2)).sz ≤ 13 + 15 * k.sz := by
 intro k
 induction k with
 | nil =>
  intro _
  rw [show read18 V18 t .nil = noN from rfl]
  exact ⟨⟨⟨by decide, by decide, by decide, by decide, by decide, by decide⟩, trivial⟩, Nat.le_refl _, by decide⟩
 | cons u d q r _ ihr =>
  intro h
  simp only [Fo.sz] at h
  obtain ⟨r1, r2, r3⟩ := ihr (by omega)
  simp only [read18, Fo.sz]
  split
  ·obtain ⟨ok, e1, e2, e3⟩ := kid_ok18 q (by omega)
   have h1 := red_ok18 q (by omega)
   have hin := inI_sz18 (kid18 V18 q) (itmF18 leastB (red18 V18 q)) ok.num
   have hrs := red_sz18 q (by omega)
   rw [e1, e2] at hin
   exact ⟨⟨ok, h1.1⟩, by simp only; omega, by simp only; omega⟩
  ·exact ⟨r1, by omega, by omega⟩
theorem okS_len18 {s : Stp} (h : okS s = true) : s.1.length ≤ 12 ∧ s.2.length ≤ 12 := by
 unfold okS at h
 simp only [Bool.and_eq_true, Bool.or_eq_true] at h
 obtain ⟨h1, h2⟩ := h
 refine ⟨(ident_len h1).2, ?_⟩
 rcases h2 with h2 | h2
 ·exact (ident_len h2).2
 ·cases h3 : s.2 with
  | nil => simp
  | cons => rw [h3] at h2; cases h2
theorem redE_ok18 : ∀ f : Fo, f.sz ≤ 1000000 → (∀ e ∈ redE18 V18 f, OkE18 e) ∧ (itsE18 leastB (redE18 V18 f)).sz ≤ 40 * f.sz ∧ (redE18 V18 f).length ≤ f.sz := by
 intro f
 induction f with
 | nil => intro _; exact ⟨fun e he => absurd he (by simp [redE18]), by simp [redE18, itsE18, Fo.sz], by simp [redE18]⟩
 | cons t d k r _ ihr =>
  intro h
  simp only [Fo.sz] at h
  obtain ⟨r1, r2, r3⟩ := ihr (by omega)
  obtain ⟨p1, p2, p3⟩ := read_ok18 3 k (by omega)
  obtain ⟨o1, o2, o3⟩ := read_ok18 5 k (by omega)
  have hw : (parseX15 (dat18 2 k)).1.length ≤ 6 ∧ (∀ s ∈ (parseX15 (dat18 2 k)).1, s.1.length ≤ 12 ∧ s.2.length ≤ 12) ∧ (showX (parseX15 (dat18 2 k)).1).length ≤ k.sz + 1 := by
   have hd := dat_len18 2 k
   rcases parse_ways (dat18 2 k) with ⟨w, h1, h2, h3, h4⟩ | ⟨e, a, h1, -, -⟩
   ·rw [h1]
    exact ⟨h3, fun s hs => okS_len18 (List.all_eq_true.1 h2 s hs), by rw [h4]; omega⟩
   ·rw [h1]
    exact ⟨by simp, fun s hs => absurd hs (by simp), by rw [show showX ([] : List Stp) = [47] by decide]; simp⟩
  refine ⟨fun e he => ?_, ?_, ?_⟩
  ·simp only [redE18, List.mem_cons] at he
   rcases he with rfl | he
   ·exact ⟨by simp only; omega, fun s hs => by have := hw.2.1 s hs; omega, by simp only; omega, by simp only; omega, p1, o1⟩
   ·exact r1 e he
  ·simp only [redE18, itsE18, Fo.sz, itm18, List.length_nil]
   split <;> split <;> simp only [Fo.sz, List.length_nil] <;> omega
  ·simp only [redE18, List.length_cons, Fo.sz]; omega
def Rng (a b g : Nat) : Prop := a ≤ g ∧ g < b
def RSpP (x : Sp × Nat) (w : World) (r : Ending) (w' : World) : Prop := ∃ cs, r = .returned (.tuple #[.agg cs.toArray, .int .i64 (x.2 : Int)]) ∧ SpN w' (Rng w.heap.size w'.heap.size) (Rng w.heap.size w'.heap.size) cs x.1 ∧ Below w.heap.size w w'
theorem res_cell_tmp {P : Program} {fn : Func} {p u : Tmp} {ty : TypeId} (h : fn.results = #[.cell p ty, .tmp u]) (tmps : Array Value) (w : World) (g : Nat) (t : TypeId) (cs : Array Value) (fr : Nat × Nat) (d : TypeDesc)
  (hp : tmps.getD p undef = .pointer (some ⟨g, 0, none⟩)) (hg : w.heap[g]? = some (.cells cs t fr))
  (hu : P.underlying ty = some d) (hd : (match d with | .struct _ | .array _ _ => true | _ => false) = true) (hi : (P.info? ty).map (·.size) = some cs.size) :
  (results fn tmps).run P w = .ok (.tuple #[.agg cs, tmps.getD u undef]) w := by
 rw [results_cell_tmp h, hp]
 simp [asAddr, run_loadVar_row w g t ty cs fr d hg hu hd hi, Result.andThen]
def set9 (w : World) (b : Nat) (x0 x1 x2 x3 x4 x5 x6 x7 x8 : Value) : World := ((((((((w.setCell ⟨b, 0, none⟩ x0).setCell ⟨b, 1, none⟩ x1).setCell ⟨b, 2, none⟩ x2).setCell ⟨b, 3, none⟩ x3).setCell ⟨b, 4, none⟩ x4).setCell ⟨b, 5, none⟩ x5).setCell ⟨b, 6, none⟩ x6).setCell ⟨b, 7, none⟩ x7).setCell ⟨b, 8, none⟩ x8
theorem Blk.set9 {w : World} {b : Nat} {t : TypeId} {y0 y1 y2 y3 y4 y5 y6 y7 y8 : Value} (h : Blk w b t #[y0, y1, y2, y3, y4, y5, y6, y7, y8]) (x0 x1 x2 x3 x4 x5 x6 x7 x8 : Value) : Blk (set9 w b x0 x1 x2 x3 x4 x5 x6 x7 x8) b t #[x0, x1, x2, x3, x4, x5, x6, x7, x8] := by
 have h2 := (((((((((h).set_ 0 x0).set_ 1 x1).set_ 2 x2).set_ 3 x3).set_ 4 x4).set_ 5 x5).set_ 6 x6).set_ 7 x7).set_ 8 x8
 simp only [layS] at h2
 exact h2
theorem set9_below {B : Nat} {w : World} {b : Nat} {x0 x1 x2 x3 x4 x5 x6 x7 x8 : Value} (h : B ≤ b) : Below B w (set9 w b x0 x1 x2 x3 x4 x5 x6 x7 x8) :=
 (((((((((Below.refl B w).setCell (p := ⟨b, 0, none⟩) h x0).setCell (p := ⟨b, 1, none⟩) h x1).setCell (p := ⟨b, 2, none⟩) h x2).setCell (p := ⟨b, 3, none⟩) h x3).setCell (p := ⟨b, 4, none⟩) h x4).setCell (p := ⟨b, 5, none⟩) h x5).setCell (p := ⟨b, 6, none⟩) h x6).setCell (p := ⟨b, 7, none⟩) h x7).setCell (p := ⟨b, 8, none⟩) h x8
theorem set9_other {w : World} {b g : Nat} {x0 x1 x2 x3 x4 x5 x6 x7 x8 : Value} (h : g ≠ b) : (set9 w b x0 x1 x2 x3 x4 x5 x6 x7 x8).heap[g]? = w.heap[g]? := by
 unfold set9
 rw [Below.heap_setCell _ _ _ _ h, Below.heap_setCell _ _ _ _ h, Below.heap_setCell _ _ _ _ h, Below.heap_setCell _ _ _ _ h, Below.heap_setCell _ _ _ _ h, Below.heap_setCell _ _ _ _ h, Below.heap_setCell _ _ _ _ h, Below.heap_setCell _ _ _ _ h, Below.heap_setCell _ _ _ _ h]
theorem set9_size {w : World} {b : Nat} {x0 x1 x2 x3 x4 x5 x6 x7 x8 : Value} : (set9 w b x0 x1 x2 x3 x4 x5 x6 x7 x8).heap.size = w.heap.size := by simp [set9, World.setCell]
theorem FrV.under {w w' : World} {S N : Nat → Prop} {v : Value} {f : SpF} (h : FrV SpcD 9 8 w S N v f) (hb : Below w.heap.size w w') (hS : ∀ g, S g → g < w.heap.size) (hN : ∀ g, N g → g < w.heap.size) : FrV SpcD 9 8 w' S N v f :=
 h.kept stay_spc (fun g hg => hb.block g (hS g hg)) (fun _ h => h) (fun g hg => hb.block g (hN g hg)) (fun _ h => h)
theorem rroot_1 (w : World) : Calls Tryz.prog 65 #[.int .i64 1] w (RSpP (rootX 1) w) := by
 have N1 : ∀ W, Hid (Calls Tryz.prog 94 #[.string ⟨#[108, 111, 119]⟩, .int .i64 1, .int .u64 0, .int .u64 65535] W (fun r w' => r = .returned (.agg (cS ⟨#[108, 111, 119]⟩ 1 1 0 65535 (.slice none 0 0) true 0 (.slice none 0 0))) ∧ Below W.heap.size W w')) := fun W => hHd (srnum_any nLow 1 0 65535 W)
 have N2 : ∀ W, Hid (Calls Tryz.prog 94 #[.string ⟨#[104, 105, 103, 104]⟩, .int .i64 1, .int .u64 0, .int .u64 65535] W (fun r w' => r = .returned (.agg (cS ⟨#[104, 105, 103, 104]⟩ 1 1 0 65535 (.slice none 0 0) true 0 (.slice none 0 0))) ∧ Below W.heap.size W w')) := fun W => hHd (srnum_any nHigh 1 0 65535 W)
 have NK : ∀ W, Hid (Calls Tryz.prog 95 #[.int .i64 1] W (fun r w' => ∃ A c, r = .returned (.slice A 4 c) ∧ OwnG SpcD 109 9 8 w' W.heap.size (fun _ => False) (fun _ => False) (.slice A 4 c) (frOf (classL 1)) ∧ Below W.heap.size W w')) := fun W => hHd (rclass_1 W)
 have H0 : Hid (Below w.heap.size w (w.alloc (.cells (cS ⟨#[]⟩ 0 0 0 0 (.slice none 0 0) false 0 (.slice none 0 0)) 109))) := hHd bAl
 have R0 : Hid (Blk (w.alloc (.cells (cS ⟨#[]⟩ 0 0 0 0 (.slice none 0 0) false 0 (.slice none 0 0)) 109)) w.heap.size 109 (cS ⟨#[]⟩ 0 0 0 0 (.slice none 0 0) false 0 (.slice none 0 0))) := hHd (Blk.new w _ _)
 go_enter Tryz.func65, Tryz.ntmps65
 go_wp2_with fail
 refine (N1 _).out.mono ?_
 rintro r w1 ⟨rfl, hB⟩
 have H1 := hHd (H0.out.trans (hB.mono H0.out.size))
 have R1 := hHd (R0.out.below hB R0.out.lt)
 clear hB
 go_wp2_with fail
 refine (N2 _).out.mono ?_
 rintro r w2 ⟨rfl, hB⟩
 have H2 := hHd (H1.out.trans (hB.mono H1.out.size))
 have R2 := hHd (R1.out.below hB R1.out.lt)
 clear hB
 have H3 : Hid (Below w.heap.size w (w2.alloc (.cells lLo 109))) := hHd (H2.out.alloc H2.out.size _)
 have R3 : Hid (Blk (w2.alloc (.cells lLo 109)) w.heap.size 109 (cS ⟨#[]⟩ 0 0 0 0 (.slice none 0 0) false 0 (.slice none 0 0))) := hHd (R2.out.alloc _)
 have K3 : Hid (FrV SpcD 9 8 (w2.alloc (.cells lLo 109)) (Rng (w.heap.size + 1) (w2.heap.size + 1)) (fun _ => False) (.slice (some ⟨w2.heap.size, 0, none⟩) 3 3) (frOf ruleL)) := hHd (FrV.lit (f := frOf ruleL) ⟨R2.out.lt, Nat.lt_succ_self _⟩ (Blk.new w2 _ _) (row_leaves [numD nLow 1 0 65535, numD nHigh 1 0 65535, leafD nClass 6 true] (by decide)) (by decide))
 have s3 : Hid ((w2.alloc (.cells lLo 109)).heap.size = w2.heap.size + 1) := hHd (by simp)
 go_wp2_with fail
 refine (NK _).out.mono ?_
 rintro r w4 ⟨A, c, rfl, hO, hB⟩
 have H4 := hHd (H3.out.trans (hB.mono H3.out.size))
 have R4 := hHd (R3.out.below hB R3.out.lt)
 have z43 : w2.heap.size + 1 ≤ w4.heap.size := by have := hB.size; rw [s3.out] at this; exact this
 have z2 := H2.out.size
 have hz3 := R3.out.lt
 have K4 : Hid (FrV SpcD 9 8 w4 (Rng (w.heap.size + 1) w4.heap.size) (Rng (w.heap.size + 1) w4.heap.size) (.slice (some ⟨w2.heap.size, 0, none⟩) 3 3) (frOf ruleL)) := hHd ((K3.out.under hB (fun g hg => by rw [s3.out]; exact hg.2) (fun _ h => h.elim)).mono stay_spc (fun g hg => ⟨hg.1, Nat.lt_of_lt_of_le hg.2 z43⟩) (fun _ h => h.elim))
 have C4 : Hid (FrV SpcD 9 8 w4 (Rng (w.heap.size + 1) w4.heap.size) (Rng (w.heap.size + 1) w4.heap.size) (.slice A 4 c) (frOf (classL 1))) := hHd ((hO.frv stay_spc).mono stay_spc (fun g hg => hg.elim False.elim (fun hg => ⟨Nat.le_trans hz3 (hO.lt g hg).1, (hO.lt g hg).2⟩)) (fun _ h => h.elim))
 clear hO hB hz3
 have H5 : Hid (Below w.heap.size w (w4.alloc (.cells (lUp (.slice A 4 c) (.slice (some ⟨w2.heap.size, 0, none⟩) 3 3)) 109))) := hHd (H4.out.alloc H4.out.size _)
 have R5 : Hid (Blk (w4.alloc (.cells (lUp (.slice A 4 c) (.slice (some ⟨w2.heap.size, 0, none⟩) 3 3)) 109)) w.heap.size 109 (cS ⟨#[]⟩ 0 0 0 0 (.slice none 0 0) false 0 (.slice none 0 0))) := hHd (R4.out.alloc _)
 have hb5 : Below w4.heap.size w4 (w4.alloc (.cells (lUp (.slice A 4 c) (.slice (some ⟨w2.heap.size, 0, none⟩) 3 3)) 109)) := bAl
 have O5 : Hid (OwnG SpcD 109 9 8 (w4.alloc (.cells (lUp (.slice A 4 c) (.slice (some ⟨w2.heap.size, 0, none⟩) 3 3)) 109)) (w.heap.size + 1) (Rng (w.heap.size + 1) w4.heap.size) (Rng (w.heap.size + 1) w4.heap.size) (.slice (some ⟨w4.heap.size, 0, none⟩) 4 4) (frOf [(leafD nUp 3 false, .nil), (listD nClass 8, frOf (classL 1)), (listD nRule 16, frOf ruleL), (leafD nDefault 6 true, .nil)])) := hHd (OwnG.lit (f := frOf [(leafD nUp 3 false, .nil), (listD nClass 8, frOf (classL 1)), (listD nRule 16, frOf ruleL), (leafD nDefault 6 true, .nil)]) (Blk.new w4 _ _) R4.out.lt (by decide) ⟨spC (leafD nUp 3 false) (.slice none 0 0) (.slice none 0 0), _, rfl, leaf_n rfl, spC (listD nClass 8) (.slice none 0 0) (.slice A 4 c), _, rfl, list_n rfl (C4.out.under hb5 (fun g hg => hg.2) (fun g hg => hg.2)), spC (listD nRule 16) (.slice none 0 0) (.slice (some ⟨w2.heap.size, 0, none⟩) 3 3), _, rfl, list_n rfl (K4.out.under hb5 (fun g hg => hg.2) (fun g hg => hg.2)), spC (leafD nDefault 6 true) (.slice none 0 0) (.slice none 0 0), [], rfl, leaf_n rfl, rfl⟩ (fun k hk => ⟨Nat.lt_of_lt_of_le hk.2 hb5.size, Nat.ne_of_lt hk.2⟩) (fun k hk => ⟨Nat.lt_of_lt_of_le hk.2 hb5.size, Nat.ne_of_lt hk.2⟩))
 clear hb5
 have z4 : w.heap.size + 1 ≤ w4.heap.size := R4.out.lt
 have B8 : Hid (∀ g, w4.heap.size ≤ g → g < (w4.alloc (.cells (lUp (.slice A 4 c) (.slice (some ⟨w2.heap.size, 0, none⟩) 3 3)) 109)).heap.size → Rng (w.heap.size + 1) (w4.alloc (.cells (lUp (.slice A 4 c) (.slice (some ⟨w2.heap.size, 0, none⟩) 3 3)) 109)).heap.size g) := hHd (fun g h1 h2 => ⟨by omega, h2⟩)
 have lt8 : ∀ {g : Nat}, g < (w4.alloc (.cells (lUp (.slice A 4 c) (.slice (some ⟨w2.heap.size, 0, none⟩) 3 3)) 109)).heap.size → g < w4.heap.size + 1 := fun {g} h => by simpa using h
 have KP : Hid (FrV SpcD 9 8 (w4.alloc (.cells (lUp (.slice A 4 c) (.slice (some ⟨w2.heap.size, 0, none⟩) 3 3)) 109)) (Rng (w.heap.size + 1) (w4.heap.size + 1)) (Rng (w.heap.size + 1) (w4.heap.size + 1)) (.slice (some ⟨w4.heap.size, 0, none⟩) 4 4) (frOf (portL 1))) := hHd ((O5.out.frv stay_spc).mono stay_spc (fun g hg => hg.elim (fun hg => ⟨hg.1, lt8 (O5.out.1 g hg).1⟩) (fun hg => ⟨(O5.out.lt g hg).1, lt8 (O5.out.lt g hg).2⟩)) (fun g hg => ⟨hg.1, lt8 (O5.out.2.1 g hg).1⟩))
 have s8 : Hid ((w4.alloc (.cells (lUp (.slice A 4 c) (.slice (some ⟨w2.heap.size, 0, none⟩) 3 3)) 109)).heap.size = w4.heap.size + 1) := hHd (by simp)
 have gt8 : ∀ {g : Nat}, g < (w4.heap.size + 1) → g < (w4.alloc (.cells (lUp (.slice A 4 c) (.slice (some ⟨w2.heap.size, 0, none⟩) 3 3)) 109)).heap.size := fun {g} h => by simpa using h
 have hb9 : Below (w4.alloc (.cells (lUp (.slice A 4 c) (.slice (some ⟨w2.heap.size, 0, none⟩) 3 3)) 109)).heap.size (w4.alloc (.cells (lUp (.slice A 4 c) (.slice (some ⟨w2.heap.size, 0, none⟩) 3 3)) 109)) ((w4.alloc (.cells (lUp (.slice A 4 c) (.slice (some ⟨w2.heap.size, 0, none⟩) 3 3)) 109)).alloc (.cells (lSy (.slice (some ⟨w4.heap.size, 0, none⟩) 4 4)) 109)) := bAl
 have H9 : Hid (Below w.heap.size w ((w4.alloc (.cells (lUp (.slice A 4 c) (.slice (some ⟨w2.heap.size, 0, none⟩) 3 3)) 109)).alloc (.cells (lSy (.slice (some ⟨w4.heap.size, 0, none⟩) 4 4)) 109))) := hHd (H5.out.alloc H5.out.size _)
 have R9 : Hid (Blk ((w4.alloc (.cells (lUp (.slice A 4 c) (.slice (some ⟨w2.heap.size, 0, none⟩) 3 3)) 109)).alloc (.cells (lSy (.slice (some ⟨w4.heap.size, 0, none⟩) 4 4)) 109)) w.heap.size 109 (cS ⟨#[]⟩ 0 0 0 0 (.slice none 0 0) false 0 (.slice none 0 0))) := hHd (R5.out.alloc _)
 have O9 : Hid (OwnG SpcD 109 9 8 ((w4.alloc (.cells (lUp (.slice A 4 c) (.slice (some ⟨w2.heap.size, 0, none⟩) 3 3)) 109)).alloc (.cells (lSy (.slice (some ⟨w4.heap.size, 0, none⟩) 4 4)) 109)) (w.heap.size + 1) (Rng (w.heap.size + 1) (w4.heap.size + 1)) (Rng (w.heap.size + 1) (w4.heap.size + 1)) (.slice (some ⟨(w4.heap.size + 1), 0, none⟩) 2 2) (frOf [(leafD nSystem 5 false, .nil), (listD nPort 4, frOf (portL 1))])) := hHd (OwnG.lit (f := frOf [(leafD nSystem 5 false, .nil), (listD nPort 4, frOf (portL 1))]) (by have h := Blk.new (w4.alloc (.cells (lUp (.slice A 4 c) (.slice (some ⟨w2.heap.size, 0, none⟩) 3 3)) 109)) 109 (lSy (.slice (some ⟨w4.heap.size, 0, none⟩) 4 4)); rw [s8.out] at h; exact h) (lt8 R5.out.lt) (by decide) ⟨spC (leafD nSystem 5 false) (.slice none 0 0) (.slice none 0 0), _, rfl, leaf_n rfl, spC (listD nPort 4) (.slice none 0 0) (.slice (some ⟨w4.heap.size, 0, none⟩) 4 4), [], rfl, list_n rfl (KP.out.under hb9 (fun g hg => gt8 hg.2) (fun g hg => gt8 hg.2)), rfl⟩ (fun k hk => ⟨Nat.lt_of_lt_of_le (gt8 hk.2) hb9.size, Nat.ne_of_lt hk.2⟩) (fun k hk => ⟨Nat.lt_of_lt_of_le (gt8 hk.2) hb9.size, Nat.ne_of_lt hk.2⟩))
 clear hb9
 clear lt8 gt8 z2 z4 z43
 have f0 : ((w4.alloc (.cells (lUp (.slice A 4 c) (.slice (some ⟨w2.heap.size, 0, none⟩) 3 3)) 109)).alloc (.cells (lSy (.slice (some ⟨w4.heap.size, 0, none⟩) 4 4)) 109)).frozen? ⟨w.heap.size, 0, none⟩ = false := R9.out.frozen 0
 have f1 : ((w4.alloc (.cells (lUp (.slice A 4 c) (.slice (some ⟨w2.heap.size, 0, none⟩) 3 3)) 109)).alloc (.cells (lSy (.slice (some ⟨w4.heap.size, 0, none⟩) 4 4)) 109)).frozen? ⟨w.heap.size, 1, none⟩ = false := R9.out.frozen 1
 have f2 : ((w4.alloc (.cells (lUp (.slice A 4 c) (.slice (some ⟨w2.heap.size, 0, none⟩) 3 3)) 109)).alloc (.cells (lSy (.slice (some ⟨w4.heap.size, 0, none⟩) 4 4)) 109)).frozen? ⟨w.heap.size, 2, none⟩ = false := R9.out.frozen 2
 have f3 : ((w4.alloc (.cells (lUp (.slice A 4 c) (.slice (some ⟨w2.heap.size, 0, none⟩) 3 3)) 109)).alloc (.cells (lSy (.slice (some ⟨w4.heap.size, 0, none⟩) 4 4)) 109)).frozen? ⟨w.heap.size, 3, none⟩ = false := R9.out.frozen 3
 have f4 : ((w4.alloc (.cells (lUp (.slice A 4 c) (.slice (some ⟨w2.heap.size, 0, none⟩) 3 3)) 109)).alloc (.cells (lSy (.slice (some ⟨w4.heap.size, 0, none⟩) 4 4)) 109)).frozen? ⟨w.heap.size, 4, none⟩ = false := R9.out.frozen 4
 have f5 : ((w4.alloc (.cells (lUp (.slice A 4 c) (.slice (some ⟨w2.heap.size, 0, none⟩) 3 3)) 109)).alloc (.cells (lSy (.slice (some ⟨w4.heap.size, 0, none⟩) 4 4)) 109)).frozen? ⟨w.heap.size, 5, none⟩ = false := R9.out.frozen 5
 have f6 : ((w4.alloc (.cells (lUp (.slice A 4 c) (.slice (some ⟨w2.heap.size, 0, none⟩) 3 3)) 109)).alloc (.cells (lSy (.slice (some ⟨w4.heap.size, 0, none⟩) 4 4)) 109)).frozen? ⟨w.heap.size, 6, none⟩ = false := R9.out.frozen 6
 have f7 : ((w4.alloc (.cells (lUp (.slice A 4 c) (.slice (some ⟨w2.heap.size, 0, none⟩) 3 3)) 109)).alloc (.cells (lSy (.slice (some ⟨w4.heap.size, 0, none⟩) 4 4)) 109)).frozen? ⟨w.heap.size, 7, none⟩ = false := R9.out.frozen 7
 have f8 : ((w4.alloc (.cells (lUp (.slice A 4 c) (.slice (some ⟨w2.heap.size, 0, none⟩) 3 3)) 109)).alloc (.cells (lSy (.slice (some ⟨w4.heap.size, 0, none⟩) 4 4)) 109)).frozen? ⟨w.heap.size, 8, none⟩ = false := R9.out.frozen 8
 obtain ⟨q0, q1, q2, q3, q4, q5, q6, q7, q8⟩ := cl9 R9.out
 have KE : Hid (FrV SpcD 9 8 ((w4.alloc (.cells (lUp (.slice A 4 c) (.slice (some ⟨w2.heap.size, 0, none⟩) 3 3)) 109)).alloc (.cells (lSy (.slice (some ⟨w4.heap.size, 0, none⟩) 4 4)) 109)) (Rng (w.heap.size + 1) ((w4.alloc (.cells (lUp (.slice A 4 c) (.slice (some ⟨w2.heap.size, 0, none⟩) 3 3)) 109)).alloc (.cells (lSy (.slice (some ⟨w4.heap.size, 0, none⟩) 4 4)) 109)).heap.size) (Rng (w.heap.size + 1) ((w4.alloc (.cells (lUp (.slice A 4 c) (.slice (some ⟨w2.heap.size, 0, none⟩) 3 3)) 109)).alloc (.cells (lSy (.slice (some ⟨w4.heap.size, 0, none⟩) 4 4)) 109)).heap.size) (.slice (some ⟨(w4.heap.size + 1), 0, none⟩) 2 2) (rootF 1)) := hHd ((O9.out.frv stay_spc).mono stay_spc (fun g hg => hg.elim (fun hg => ⟨hg.1, (O9.out.1 g hg).1⟩) (fun hg => O9.out.lt g hg)) (fun g hg => ⟨hg.1, (O9.out.2.1 g hg).1⟩))
 have HE : Hid (Below w.heap.size w (set9 ((w4.alloc (.cells (lUp (.slice A 4 c) (.slice (some ⟨w2.heap.size, 0, none⟩) 3 3)) 109)).alloc (.cells (lSy (.slice (some ⟨w4.heap.size, 0, none⟩) 4 4)) 109)) w.heap.size (.string ⟨#[]⟩) (.int .i64 2) (.int .i64 0) (.int .u64 0) (.int .u64 0) (.slice none 0 0) (.bool false) (.int .i64 0) (.slice (some ⟨(w4.heap.size + 1), 0, none⟩) 2 2))) := hHd (H9.out.trans (set9_below (Nat.le_refl _)))
 have RE : Hid (Blk (set9 ((w4.alloc (.cells (lUp (.slice A 4 c) (.slice (some ⟨w2.heap.size, 0, none⟩) 3 3)) 109)).alloc (.cells (lSy (.slice (some ⟨w4.heap.size, 0, none⟩) 4 4)) 109)) w.heap.size (.string ⟨#[]⟩) (.int .i64 2) (.int .i64 0) (.int .u64 0) (.int .u64 0) (.slice none 0 0) (.bool false) (.int .i64 0) (.slice (some ⟨(w4.heap.size + 1), 0, none⟩) 2 2)) w.heap.size 109 (cS ⟨#[]⟩ 2 0 0 0 (.slice none 0 0) false 0 (.slice (some ⟨(w4.heap.size + 1), 0, none⟩) 2 2))) := hHd (R9.out.set9 _ _ _ _ _ _ _ _ _)
 have KS : Hid (FrV SpcD 9 8 (set9 ((w4.alloc (.cells (lUp (.slice A 4 c) (.slice (some ⟨w2.heap.size, 0, none⟩) 3 3)) 109)).alloc (.cells (lSy (.slice (some ⟨w4.heap.size, 0, none⟩) 4 4)) 109)) w.heap.size (.string ⟨#[]⟩) (.int .i64 2) (.int .i64 0) (.int .u64 0) (.int .u64 0) (.slice none 0 0) (.bool false) (.int .i64 0) (.slice (some ⟨(w4.heap.size + 1), 0, none⟩) 2 2)) (Rng w.heap.size (set9 ((w4.alloc (.cells (lUp (.slice A 4 c) (.slice (some ⟨w2.heap.size, 0, none⟩) 3 3)) 109)).alloc (.cells (lSy (.slice (some ⟨w4.heap.size, 0, none⟩) 4 4)) 109)) w.heap.size (.string ⟨#[]⟩) (.int .i64 2) (.int .i64 0) (.int .u64 0) (.int .u64 0) (.slice none 0 0) (.bool false) (.int .i64 0) (.slice (some ⟨(w4.heap.size + 1), 0, none⟩) 2 2)).heap.size) (Rng w.heap.size (set9 ((w4.alloc (.cells (lUp (.slice A 4 c) (.slice (some ⟨w2.heap.size, 0, none⟩) 3 3)) 109)).alloc (.cells (lSy (.slice (some ⟨w4.heap.size, 0, none⟩) 4 4)) 109)) w.heap.size (.string ⟨#[]⟩) (.int .i64 2) (.int .i64 0) (.int .u64 0) (.int .u64 0) (.slice none 0 0) (.bool false) (.int .i64 0) (.slice (some ⟨(w4.heap.size + 1), 0, none⟩) 2 2)).heap.size) (.slice (some ⟨(w4.heap.size + 1), 0, none⟩) 2 2) (rootF 1)) := hHd (KE.out.kept stay_spc (fun g hg => set9_other (by have := hg.1; omega)) (fun g hg => ⟨by have := hg.1; omega, by rw [set9_size]; exact hg.2⟩) (fun g hg => set9_other (by have := hg.1; omega)) (fun g hg => ⟨by have := hg.1; omega, by rw [set9_size]; exact hg.2⟩))
 clear KE
 go_wp2
 refine bodyPost_ret (res_cell_tmp rfl _ _ w.heap.size 109 _ (0, 0) _ rfl RE.out Tryz.underlying109 rfl (by kernel_rfl)) rfl ?_
 exact ⟨spC rootD (.slice none 0 0) (.slice (some ⟨(w4.heap.size + 1), 0, none⟩) 2 2), rfl, list_n rfl KS.out, HE.out⟩
end Go.Proofs.YtleidkpdpabkpaaGreatDoor
