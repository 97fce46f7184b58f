/- EdtFew SpcRefC SpcRefG Law07A Lies PthRefB -/
import Derived.Test.YtleidkpdpabkpaaGreatDoorAM13
set_option linter.unusedSimpArgs false
set_option linter.unusedVariables false
set_option maxRecDepth 100000
set_option maxHeartbeats 8000000
namespace Go.Proofs.YtleidkpdpabkpaaGreatDoor
open Go.RowKit
theorem V18_lt (s : List UInt8) : V18 s < 18446744073709551616 := by
 unfold V18
 split
 ·rename_i h
  have h1 := valB_lt (strip18 s)
  have h2 : 256 ^ (strip18 s).length ≤ 256 ^ 8 := Nat.pow_le_pow_right (by decide) h
  have h3 : (256 : Nat) ^ 8 = 18446744073709551616 := by decide
  omega
 ·decide
theorem dat_len18 (t : Nat) : ∀ k : Fo, (dat18 t k).length ≤ k.sz := by
 intro k
 induction k with
 | nil => exact Nat.le_refl _
 | cons u d q r _ ih => simp only [dat18, Fo.sz]; split <;> omega
theorem kid_ok18 (k : Fo) (h : k.sz ≤ 1000000) : OkD (kid18 V18 k) ∧ (kid18 V18 k).name = dat18 0 k ∧ (kid18 V18 k).key = dat18 2 k ∧ (kid18 V18 k).text.length ≤ (dat18 4 k).length := by
 have h0 := dat_len18 0 k
 have h2 := dat_len18 2 k
 have h4 := dat_len18 4 k
 unfold kid18
 rcases hd : dat18 4 k with _ | ⟨x, _ | ⟨y, s⟩⟩
 ·exact ⟨⟨by simp only; omega, by simp only; omega, by simp, by simp, by simp, by simp⟩, rfl, rfl, by simp⟩
 ·exact ⟨⟨by simp only; omega, by simp only; omega, by simp, by simp, by simp, by simp⟩, rfl, rfl, by simp⟩
 ·rw [hd] at h4
  simp only [List.length_cons] at h4
  have hx := byte_lt x
  by_cases hy : y = 0
  ·simp only [if_pos hy]
   exact ⟨⟨by simp only; omega, by simp only; omega, by simp only; omega, by simp only; omega, V18_lt s, by simp⟩, trivial, trivial, by simp⟩
  ·simp only [if_neg hy]
   exact ⟨⟨by simp only; omega, by simp only; omega, by simp only; omega, by simp only; omega, by simp, by simp only; omega⟩, trivial, trivial, by simp; omega⟩
theorem red_ok18 : ∀ k : Fo, k.sz ≤ 1000000 → OkF (red18 V18 k) ∧ (red18 V18 k).size ≤ k.sz := by
 intro k
 induction k with
 | nil => intro _; exact ⟨trivial, Nat.le_refl _⟩
 | cons t d q r ihq ihr =>
  intro h
  simp only [Fo.sz] at h
  obtain ⟨r1, r2⟩ := ihr (by omega)
  obtain ⟨q1, q2⟩ := ihq (by omega)
  simp only [red18, Fo.sz]
  split
  ·exact ⟨⟨(kid_ok18 q (by omega)).1, q1, r1⟩, by simp only [Fr.size]; omega⟩
  ·exact ⟨r1, by omega⟩
theorem least_len18b (x : Nat) (h : x < 18446744073709551616) : (leastB x).length ≤ 8 := by
 unfold leastB
 rw [bigB_length]
 exact (lenB_spec 8 x (by omega)).2.2
theorem inI_sz18 (a : NdD) (r : Fo) (h : a.num < 18446744073709551616) : (inI18 leastB a r).sz ≤ 13 + a.name.length + a.key.length + a.text.length + r.sz := by
 have h8 := least_len18b a.num h
 have hv : (valI18 leastB a r).sz ≤ 11 + a.text.length + r.sz := by
  unfold valI18 valT18
  split
  ·omega
  ·split <;> simp only [Fo.sz, List.length_cons] <;> omega
 unfold inI18 keyI18
 simp only [Fo.sz]
 split
 ·omega
 ·simp only [Fo.sz]; omega
theorem red_sz18 : ∀ k : Fo, k.sz ≤ 1000000 → (dat18 0 k).length + (dat18 2 k).length + (dat18 4 k).length + (itmF18 leastB (red18 V18 k)).sz ≤ 15 * k.sz := by
 intro k
 induction k with
 | nil => intro _; exact Nat.le_refl _
 | cons t d q r ihq ihr =>
  intro h
  simp only [Fo.sz] at h
  have r1 := ihr (by omega)
  have q1 := ihq (by omega)
  obtain ⟨ok, e1, e2, e3⟩ := kid_ok18 q (by omega)
  have hin := inI_sz18 (kid18 V18 q) (itmF18 leastB (red18 V18 q)) ok.num
  rw [e1, e2] at hin
  simp only [dat18, red18, Fo.sz]
  by_cases t7 : t = 7
  ·subst t7
   simp only [if_pos, itmF18, Fo.sz, List.length_nil, show ¬ (7 : Nat) = 0 by decide, show ¬ (7 : Nat) = 2 by decide, show ¬ (7 : Nat) = 4 by decide, if_false]
   omega
  ·simp only [if_neg t7]
   by_cases t0 : t = 0
   ·subst t0; simp only [if_pos, show ¬ (0 : Nat) = 2 by decide, show ¬ (0 : Nat) = 4 by decide, if_false]; omega
   ·by_cases t2 : t = 2
    ·subst t2; simp only [if_pos, show ¬ (2 : Nat) = 0 by decide, show ¬ (2 : Nat) = 4 by decide, if_false]; omega
    ·by_cases t4 : t = 4
     ·subst t4; simp only [if_pos, show ¬ (4 : Nat) = 0 by decide, show ¬ (4 : Nat) = 2 by decide, if_false]; omega
     ·simp only [if_neg t0, if_neg t2, if_neg t4]; omega
theorem read_ok18 (t : Nat) : ∀ k : Fo, k.sz ≤ 1000000 → OkN (read18 V18 t k) ∧ (read18 V18 t k).2.size ≤ k.sz ∧ (inI18 leastB (read18 V18 t k).1 (itmF18 leastB (read18 V18 t k).2)).sz ≤ 13 + 15 * k.sz := by
 intro k
 induction k with
 | nil =>
  intro _
  rw [show read18 V18 t .nil = noN from rfl]
  exact ⟨⟨⟨by decide, by decide, by decide, by decide, by decide, by decide⟩, trivial⟩, Nat.le_refl _, by decide⟩
 | cons u d q r _ ihr =>
  intro h
  simp only [Fo.sz] at h
  obtain ⟨r1, r2, r3⟩ := ihr (by omega)
  simp only [read18, Fo.sz]
  split
  ·obtain ⟨ok, e1, e2, e3⟩ := kid_ok18 q (by omega)
   have h1 := red_ok18 q (by omega)
   have hin := inI_sz18 (kid18 V18 q) (itmF18 leastB (red18 V18 q)) ok.num
   have hrs := red_sz18 q (by omega)
   rw [e1, e2] at hin
   exact ⟨⟨ok, h1.1⟩, by simp only; omega, by simp only; omega⟩
  ·exact ⟨r1, by omega, by omega⟩
theorem okS_len18 {s : Stp} (h : okS s = true) : s.1.length ≤ 12 ∧ s.2.length ≤ 12 := by
 unfold okS at h
 simp only [Bool.and_eq_true, Bool.or_eq_true] at h
 obtain ⟨h1, h2⟩ := h
 refine ⟨(ident_len h1).2, ?_⟩
 rcases h2 with h2 | h2
 ·exact (ident_len h2).2
 ·cases h3 : s.2 with
  | nil => simp
  | cons => rw [h3] at h2; cases h2
theorem redE_ok18 : ∀ f : Fo, f.sz ≤ 1000000 → (∀ e ∈ redE18 V18 f, OkE18 e) ∧ (itsE18 leastB (redE18 V18 f)).sz ≤ 40 * f.sz ∧ (redE18 V18 f).length ≤ f.sz := by
 intro f
 induction f with
 | nil => intro _; exact ⟨fun e he => absurd he (by simp [redE18]), by simp [redE18, itsE18, Fo.sz], by simp [redE18]⟩
 | cons t d k r _ ihr =>
  intro h
  simp only [Fo.sz] at h
  obtain ⟨r1, r2, r3⟩ := ihr (by omega)
  obtain ⟨p1, p2, p3⟩ := read_ok18 3 k (by omega)
  obtain ⟨o1, o2, o3⟩ := read_ok18 5 k (by omega)
  have hw : (parseX15 (dat18 2 k)).1.length ≤ 6 ∧ (∀ s ∈ (parseX15 (dat18 2 k)).1, s.1.length ≤ 12 ∧ s.2.length ≤ 12) ∧ (showX (parseX15 (dat18 2 k)).1).length ≤ k.sz + 1 := by
   have hd := dat_len18 2 k
   rcases parse_ways (dat18 2 k) with ⟨w, h1, h2, h3, h4⟩ | ⟨e, a, h1, -, -⟩
   ·rw [h1]
    exact ⟨h3, fun s hs => okS_len18 (List.all_eq_true.1 h2 s hs), by rw [h4]; omega⟩
   ·rw [h1]
    exact ⟨by simp, fun s hs => absurd hs (by simp), by rw [show showX ([] : List Stp) = [47] by decide]; simp⟩
  refine ⟨fun e he => ?_, ?_, ?_⟩
  ·simp only [redE18, List.mem_cons] at he
   rcases he with rfl | he
   ·exact ⟨by simp only; omega, fun s hs => by have := hw.2.1 s hs; omega, by simp only; omega, by simp only; omega, p1, o1⟩
   ·exact r1 e he
  ·simp only [redE18, itsE18, Fo.sz, itm18, List.length_nil]
   split <;> split <;> simp only [Fo.sz, List.length_nil] <;> omega
  ·simp only [redE18, List.length_cons, Fo.sz]; omega
def Rng (a b g : Nat) : Prop := a ≤ g ∧ g < b
def RSpP (x : Sp × Nat) (w : World) (r : Ending) (w' : World) : Prop := ∃ cs, r = .returned (.tuple #[.agg cs.toArray, .int .i64 (x.2 : Int)]) ∧ SpN w' (Rng w.heap.size w'.heap.size) (Rng w.heap.size w'.heap.size) cs x.1 ∧ Below w.heap.size w w'
theorem res_cell_tmp {P : Program} {fn : Func} {p u : Tmp} {ty : TypeId} (h : fn.results = #[.cell p ty, .tmp u]) (tmps : Array Value) (w : World) (g : Nat) (t : TypeId) (cs : Array Value) (fr : Nat × Nat) (d : TypeDesc)
  (hp : tmps.getD p undef = .pointer (some ⟨g, 0, none⟩)) (hg : w.heap[g]? = some (.cells cs t fr))
  (hu : P.underlying ty = some d) (hd : (match d with | .struct _ | .array _ _ => true | _ => false) = true) (hi : (P.info? ty).map (·.size) = some cs.size) :
  (results fn tmps).run P w = .ok (.tuple #[.agg cs, tmps.getD u undef]) w := by
 rw [results_cell_tmp h, hp]
 simp [asAddr, run_loadVar_row w g t ty cs fr d hg hu hd hi, Result.andThen]
theorem FrV.under {w w' : World} {S N : Nat → Prop} {v : Value} {f : SpF} (h : FrV SpcD 9 8 w S N v f) (hb : Below w.heap.size w w') (hS : ∀ g, S g → g < w.heap.size) (hN : ∀ g, N g → g < w.heap.size) : FrV SpcD 9 8 w' S N v f :=
 h.kept stay_spc (fun g hg => hb.block g (hS g hg)) (fun _ h => h) (fun g hg => hb.block g (hN g hg)) (fun _ h => h)
theorem SpN.under {w w' : World} {S N : Nat → Prop} {cs : List Value} {x : Sp} (h : SpN w S N cs x) (hb : Below w.heap.size w w') (hS : ∀ g, S g → g < w.heap.size) (hN : ∀ g, N g → g < w.heap.size) : SpN w' S N cs x :=
 h.kept stay_spc (fun g hg => hb.block g (hS g hg)) (fun _ h => h) (fun g hg => hb.block g (hN g hg)) (fun _ h => h)
theorem SpN.apart {w w' : World} {S N : Nat → Prop} {cs : List Value} {x : Sp} (h : SpN w S N cs x) (hS : ∀ g, S g → w'.heap[g]? = w.heap[g]?) (hN : ∀ g, N g → w'.heap[g]? = w.heap[g]?) : SpN w' S N cs x :=
 h.kept stay_spc hS (fun _ h => h) hN (fun _ h => h)
theorem NewSp.under {base : Nat} {w w' : World} {cs : List Value} {x : Sp} (h : NewSp base w cs x) (hb : Below w.heap.size w w') : NewSp base w' cs x := by
 obtain ⟨S, N, hS, hN, h⟩ := h
 exact ⟨S, N, fun g hg => (hS g hg).below hb, fun g hg => ⟨(hN g hg).1.below hb, (hN g hg).2⟩, h.under hb (fun g hg => (hS g hg).lt) (fun g hg => (hN g hg).1.lt)⟩
theorem NewSp.shape {base : Nat} {w : World} {cs : List Value} {x : Sp} (h : NewSp base w cs x) : ∃ B m A c, cs = [.string (txt x.1.name), .int .i64 (x.1.kind : Int), .int .i64 (x.1.typ : Int), .int .u64 (x.1.low : Int), .int .u64 (x.1.high : Int), .slice B x.1.names.length m, .bool x.1.must, .int .i64 (x.1.most : Int), .slice A x.2.len c] := by
 obtain ⟨S, N, hS, hN, h⟩ := h
 obtain ⟨B, m, A, c, d, e, _⟩ := h.shape
 exact ⟨B, m, A, c, e⟩
def Lies (w : World) (cs : List Value) (x : Sp) : Prop := ∃ S N, (∀ g, S g → g < w.heap.size) ∧ (∀ g, N g → g < w.heap.size) ∧ SpN w S N cs x
theorem Lies.below {w w' : World} {cs : List Value} {x : Sp} (h : Lies w cs x) (hb : Below w.heap.size w w') : Lies w' cs x := by
 obtain ⟨S, N, hS, hN, h⟩ := h
 exact ⟨S, N, fun g hg => Nat.lt_of_lt_of_le (hS g hg) hb.size, fun g hg => Nat.lt_of_lt_of_le (hN g hg) hb.size, h.under hb hS hN⟩
theorem Lies.shape {w : World} {cs : List Value} {x : Sp} (h : Lies w cs x) : ∃ B m A c, cs = [.string (txt x.1.name), .int .i64 (x.1.kind : Int), .int .i64 (x.1.typ : Int), .int .u64 (x.1.low : Int), .int .u64 (x.1.high : Int), .slice B x.1.names.length m, .bool x.1.must, .int .i64 (x.1.most : Int), .slice A x.2.len c] := by
 obtain ⟨S, N, hS, hN, h⟩ := h
 obtain ⟨B, m, A, c, d, e, _⟩ := h.shape
 exact ⟨B, m, A, c, e⟩
theorem NewSp.lies {base : Nat} {w : World} {cs : List Value} {x : Sp} (h : NewSp base w cs x) : Lies w cs x := by
 obtain ⟨S, N, hS, hN, h⟩ := h
 exact ⟨S, N, fun g hg => (hS g hg).lt, fun g hg => (hN g hg).1.lt, h⟩
def LieSp (x : Sp × Nat) (w : World) (r : Ending) (w' : World) : Prop := ∃ cs, r = .returned (.tuple #[.agg cs.toArray, .int .i64 (x.2 : Int)]) ∧ Lies w' cs x.1 ∧ Below w.heap.size w w'
theorem RSpP.lie {x : Sp × Nat} {w : World} {r : Ending} {w' : World} (h : RSpP x w r w') : LieSp x w r w' := by
 obtain ⟨cs, e, h, hb⟩ := h
 exact ⟨cs, e, ⟨_, _, fun g hg => hg.2, fun g hg => hg.2, h⟩, hb⟩
theorem SpP.lie {x : Sp × Nat} {w : World} {r : Ending} {w' : World} (h : SpP x w r w') : LieSp x w r w' := by
 obtain ⟨cs, e, h, hb⟩ := h
 exact ⟨cs, e, h.lies, hb⟩
def InV (v : Int) (x : Sp) : Prop := x = (rootD, rootF v.toNat) ∨ x ∈ inner (rootF v.toNat)
theorem InV.get {v : Int} {x y : Sp} {i : Nat} (h : InV v x) (hg : x.2.get? i = some y) : InV v y := by
 have hy := inner_get hg
 rcases h with rfl | h
 ·exact .inr hy
 ·exact .inr (inner_in h hy)
end Go.Proofs.YtleidkpdpabkpaaGreatDoor
