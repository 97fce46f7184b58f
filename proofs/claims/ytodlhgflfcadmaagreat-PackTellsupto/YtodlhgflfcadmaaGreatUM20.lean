/- RngSeqC SpvFnB -/
import Derived.Test.YtodlhgflfcadmaaGreatUM16
import Derived.Laws.EntriesVeiled
set_option linter.unusedSimpArgs false
set_option linter.unusedVariables false
set_option maxRecDepth 100000
set_option maxHeartbeats 8000000
namespace Go.Proofs.YtodlhgflfcadmaaGreat
open Go.RowKit
def SeqOneH (h t : Nat) (cs : Array Value) (P : Program) (g : Nat) (lb : Array Value) (Enc : Nat → Array Value → World → Prop) (has : Bool) (w : World) : Prop :=
 ∀ (l : Nat) (Jx : World → Prop) (W : World), Below w.heap.size w W → OwnFrom W.heap.size (fun (_ : Unit) V => Jx V) →
  (∀ args W1, W.grownBy W1 (some h) → Enc W.heap.size args W1 → ∀ m, YieldAt Fence.wide m P l args W1 (StopY W.heap.size Jx W1)) →
  Calls P g (#[.func (.yield l) #[] #[]] ++ lb) W fun e W' => (∃ v, e = .returned v) ∧ (if has = true then Jx W' else W.grownBy W' (some h) ∧ Blk W' h t cs)
section
variable {P : Program} {n : Nat} {g : Operand} {ps : Array Tmp} {assign body : Code} {Q : Exit → Act → World → Prop} {a : Act} {w : World} {gf : Nat} {lb : Array Value} {w0 : World}
theorem wpIn_range_oneH {h t : Nat} {cs : Array Value} (hh : h < w.heap.size) (h1 : 1 ≤ n) (hg : a.eval g = .func (.func gf) #[] lb) (eg : ∀ args w, (callFunc gf args).run P w = .ok (.enter gf args) w)
  {Enc : Nat → Array Value → World → Prop} {has : Bool} (hseq : SeqOneH h t cs P gf lb Enc has w0) (hb0 : Below w0.heap.size w0 w)
  (hps : ∀ B args W, Enc B args W → args.size = ps.size) (hEm : ∀ B B' args W, B' ≤ B → Enc B args W → Enc B' args W)
  (X : Code → World → Prop) (hX : ∀ c, OwnFrom w.heap.size (fun (_ : Unit) V => X c V)) (Ax : Act → World → Prop) (hAx : ∀ a', OwnFrom w.heap.size (fun (_ : Unit) W => Ax a' W))
  (hassign : ∀ (l : Nat) (args : Array Value) (W : World) (K : Act → World → Prop), w.grownBy W (some h) → Enc w.heap.size args W →
   (∀ a' W', KeepsFrom w.heap.size W W' → Ax a' W' → K a' W') →
   assign.wpIn (Fence.wide.inRound l) (n - 1 - 1) P (Exit.then K (fun _ _ _ => False)) { tmps := (ps.zip args).foldl (fun t (p, v) => t.setIfInBounds p v) a.tmps, defers := [] } W)
  (hbody : ∀ (l : Nat) (a' : Act) (W : World), w.heap.size ≤ l → Ax a' W → body.wpIn (Fence.wide.inRound l) (n - 1 - 1) P (leftO w.heap.size X W) a' W)
  (hdone : has = false → ∀ (D : Nat) (W : World), w.heap.size ≤ D → w.grownBy W (some h) → Blk W h t cs → W.heap[D]? = some (.deferred (some [])) → Q .normal { a with defers := { target := .collected D, args := #[] } :: a.defers } W)
  (hstop : has = true → ∀ (D : Nat) (c : Code) (W : World), w.heap.size ≤ D → X c W → W.heap[D]? = some (.deferred (some [])) → c.wpIn Fence.wide n P Q { a with defers := { target := .collected D, args := #[] } :: a.defers } W) :
  (Code.rangeFunc g ps assign body).wpIn Fence.wide n P Q a w := by
 refine wpIn_rangeFunc fun fn hfn => ?_
 rw [show Fence.wide.round = none from rfl]
 obtain ⟨D, hD⟩ : ∃ D, D = w.heap.size := ⟨_, rfl⟩
 obtain ⟨L, hL⟩ : ∃ L, L = w.heap.size + 1 := ⟨_, rfl⟩
 have hDL : D ≠ L := by omega
 let st : LoopState → Option Code → Obj := fun s j => .loop { state := s, pending := j, fn, tmps := a.tmps, params := ps, assign, body, defers := D }
 let dv : Obj := .deferred (some [])
 let W1 : World := (w.alloc dv).alloc (st .ready none)
 have e1 : W1.heap[L]? = some (st .ready none) := by
  have h := World.alloc_heap_new (w.alloc dv) (st .ready none)
  rw [World.size_alloc, ← hL] at h
  exact h
 have e2 : W1.heap[D]? = some dv := by rw [hD]; exact (Below.heap_alloc _ _ _ (by simp)).trans (World.alloc_heap_new w dv)
 have eB : Below w.heap.size w W1 := ((Below.refl _ w).alloc (Nat.le_refl _) _).alloc (by simp) _
 have eS : W1.heap.size = w.heap.size + 2 := by show ((w.alloc dv).alloc (st .ready none)).heap.size = _; simp
 have gB : ∀ {V : World}, W1.grownBy V (some h) → w.grownBy V (some h) := fun {V} g => ⟨g.os.trans eB.os, g.tape.trans eB.tape, g.output.trans eB.output, Nat.le_trans eB.size g.size, fun k hk hn => (g.block k (by omega) hn).trans (eB.block k hk)⟩
 have gP : ∀ {V : World} {o : Obj}, w.grownBy V (some h) → w.grownBy (V.putObj L o) (some h) := fun {V o} g => ⟨g.os, g.tape, g.output, by simpa using g.size, fun k hk hn => (World.putObj_heap_other (by omega)).trans (g.block k hk hn)⟩
 have hrun := run_enterLoop_outer (P := P) (w := w) fn a.tmps ps assign body
 rw [← hD, show D + 1 = L by omega] at hrun
 refine ⟨L, [{ target := .collected D, args := #[] }], W1, { target := .fn (.func gf) lb, args := #[.func (.yield L) #[] #[]] }, W1, gf, #[.func (.yield L) #[] #[]] ++ lb, W1, hrun, ?_, ?_, ?_, fun _ => h1, ?_⟩
 ·simp only [resolve, hg]
  simp [go_sem]
 ·intro f' h'
  exact trivial
 ·simp [invoke, go_sem, eg]
 have hcall := hseq L
  (fun W => ∃ c, X c W ∧ W.heap[L]? = some (st .done (some c)) ∧ W.heap[D]? = some dv)
  W1 (hb0.trans (eB.mono hb0.size))
  (fun s A B row h hg' hr => by
   obtain ⟨c, hc, h2, h3⟩ := h
   have hfar : ∀ r, row = some r → w.heap.size ≤ r ∧ ∃ o : Obj, A.heap[r]? = some o ∧ o.isCells = false := fun r e => by
    obtain ⟨h4, h5⟩ := hr r e
    exact ⟨by omega, h5⟩
   exact ⟨c, hX c () A B row hc hg' hfar, (hg'.block L (Array.getElem?_eq_some_iff.1 h2).1 (fun e => by have := (hr L e.symm).1; omega)).trans h2, (hg'.block D (Array.getElem?_eq_some_iff.1 h3).1 (fun e => by have := (hr D e.symm).1; omega)).trans h3⟩)
  ?round
 case round =>
  intro args W hbW henc m
  have hl : W.heap[L]? = some (st .ready none) := (hbW.block L (by omega) (fun e => by injection e with e; omega)).trans e1
  have hk : W.heap[D]? = some dv := (hbW.block D (by omega) (fun e => by injection e with e; omega)).trans e2
  have henc' := hEm _ w.heap.size _ _ (by omega) henc
  refine yieldAt_any (m := n - 1 - 1) rfl m ?_
  refine ⟨fn, _, assign, body, run_yield (P := P) (args := args) hl (hps _ _ _ henc), roundIn_of_wpIn hfn (hassign L args W _ (gB hbW) henc' ?_)⟩
  intro a' V hVk hVa
  have vl : V.heap[L]? = some (st .ready none) := hVk.same _ _ (by omega) hl rfl
  have vk : V.heap[D]? = some dv := hVk.same _ _ (by omega) hk rfl
  have vlt : L < V.heap.size := (Array.getElem?_eq_some_iff.1 vl).1
  obtain ⟨U, hU⟩ : ∃ U, U = V.putObj L (st .busy none) := ⟨_, rfl⟩
  have ul : U.heap[L]? = some (st .busy none) := by rw [hU]; exact World.putObj_heap_same vlt
  have uk : U.heap[D]? = some dv := by rw [hU]; exact (World.putObj_heap_other hDL).trans vk
  refine ⟨U, by rw [hU]; exact run_beginRound vl rfl, ?_⟩
  have ua : Ax a' U := by rw [hU]; exact (hAx a').putObj (s := ()) _ hVa (by omega) vl rfl
  have uK : KeepsFrom W1.heap.size V U := by rw [hU]; exact keepsFrom_put _ _ _ (by omega)
  have leave : ∀ (c : Code) (Z : World), KeepsFrom w.heap.size U Z → X c Z → ∃ v Z', (Instr.endRound L (some c)).run P Z = .ok v Z' ∧
    StopY W1.heap.size (fun W => ∃ c, X c W ∧ W.heap[L]? = some (st .done (some c)) ∧ W.heap[D]? = some dv) W (.returned v) Z' := fun c Z hZ hx => by
   have zl := hZ.same _ _ (by omega) ul rfl
   have zk := hZ.same _ _ (by omega) uk rfl
   refine ⟨_, _, run_endRound (P := P) (some c) zl, rfl, ⟨c, (hX c).putObj (s := ()) _ hx (by omega) zl rfl, World.putObj_heap_same (Array.getElem?_eq_some_iff.1 zl).1, (World.putObj_heap_other hDL).trans zk⟩, ?_⟩
   exact (((keepsFrom_mono hVk (by omega)).trans uK).trans (keepsFrom_mono hZ (by omega))).trans (keepsFrom_put _ _ _ (by omega))
  refine wpIn_mono (hbody L a' U (by omega) ua) ?_
  rintro e b Z hp
  cases e with
  | normal => exact hp.elim
  | ret => exact leave _ Z hp.1 hp.2
  | exit id => exact leave _ Z hp.1 hp.2
  | goto t => exact leave _ Z hp.1 hp.2
  | panic ch => exact hp.elim
  | outgrown => exact hp.elim
 refine (callsIn_wide.2 hcall).mono ?_
 rintro e Z ⟨⟨v, rfl⟩, hz⟩
 cases hh0 : has with
 | true =>
  rw [hh0, if_pos rfl] at hz
  obtain ⟨c, hc, zl, zk⟩ := hz
  exact ⟨some c, _, run_endLoop (P := P) zl (by simp), hstop hh0 D c _ (by omega) ((hX c).putObj (s := ()) _ hc (by omega) zl rfl) ((World.putObj_heap_other hDL).trans zk)⟩
 | false =>
  rw [hh0, if_neg (by simp)] at hz
  obtain ⟨hz, hzb⟩ := hz
  have zl : Z.heap[L]? = some (st .ready none) := (hz.block L (by omega) (fun e => by injection e with e; omega)).trans e1
  have zk : Z.heap[D]? = some dv := (hz.block D (by omega) (fun e => by injection e with e; omega)).trans e2
  exact ⟨none, _, run_endLoop (P := P) zl (by simp), hdone hh0 D _ (by omega) (gP (gB hz)) ((World.putObj_heap_other (by omega)).trans hzb) ((World.putObj_heap_other hDL).trans zk)⟩
end
inductive Marks (B : Nat) (W : World) : List Deferred → Prop
 | nil : Marks B W []
 | cons {D : Nat} {ds : List Deferred} : B ≤ D → W.heap[D]? = some (.deferred (some [])) → (∀ d ∈ ds, ∃ D', d.target = .collected D' ∧ D' < D) → Marks B W ds → Marks B W ({ target := .collected D, args := #[] } :: ds)
theorem Marks.keep {B : Nat} {W W' : World} {ds : List Deferred} (h : Marks B W ds) (hk : KeepsFrom B W W') : Marks B W' ds := by
 induction h with
 | nil => exact .nil
 | cons h1 h2 h3 _ ih => exact .cons h1 (hk.same _ _ h1 h2 rfl) h3 ih
theorem Marks.lt {B : Nat} {W : World} {ds : List Deferred} (h : Marks B W ds) : ∀ d ∈ ds, ∃ D', d.target = .collected D' ∧ D' < W.heap.size := by
 induction h with
 | nil => intro d hd; cases hd
 | cons h1 h2 h3 _ ih =>
  intro d hd
  rcases List.mem_cons.1 hd with rfl | hd
  ·exact ⟨_, rfl, (Array.getElem?_eq_some_iff.1 h2).1⟩
  ·exact ih d hd
theorem Marks.push {B D : Nat} {W W' : World} {ds : List Deferred} (h : Marks B W ds) (hk : KeepsFrom B W W') (hB : B ≤ D) (hD : W.heap.size ≤ D) (hd : W'.heap[D]? = some (.deferred (some []))) : Marks B W' ({ target := .collected D, args := #[] } :: ds) :=
 .cons hB hd (fun d hm => by obtain ⟨D', h1, h2⟩ := h.lt d hm; exact ⟨D', h1, by omega⟩) (h.keep hk)
theorem Marks.put {B D : Nat} {W : World} {ds : List Deferred} (h : Marks B W ds) (o : Obj) (hd : ∀ d ∈ ds, ∃ D', d.target = .collected D' ∧ D' < D) : Marks B (W.putObj D o) ds := by
 induction h with
 | nil => exact .nil
 | cons h1 h2 h3 _ ih =>
  obtain ⟨D', e, hlt⟩ := hd _ (List.mem_cons_self ..)
  injection e with e
  subst e
  exact .cons h1 ((World.putObj_heap_other (by omega)).trans h2) h3 (ih fun d hm => hd d (by simp [hm]))
theorem leaves_marks {F : Fence} {n : Nat} {P : Program} {fn : Func} {tmps : Array Value} {R : Ending → World → Prop} {B : Nat} {v : Value} (R0 : World → Prop)
  (hput : ∀ (W : World) (D : Nat), B ≤ D → W.heap[D]? = some (.deferred (some [])) → R0 W → R0 (W.putObj D (.deferred none)))
  (hend : ∀ W, R0 W → ∃ v, (results fn tmps).run P W = .ok v W ∧ R (.returned v) W) : ∀ (ds : List Deferred) (W : World), Marks B W ds → R0 W → LeavesInM F n P fn tmps R ds .returning W := by
 intro ds
 induction ds with
 | nil => intro W _ h0; exact hend W h0
 | cons d ds ih =>
  intro W hm h0
  cases hm with
  | cons h1 h2 h3 h4 => exact ⟨by simp, .inl ⟨_, _, rfl, run_takeDeferred h2, ih _ (h4.put _ h3) (hput _ _ h1 h2 h0)⟩⟩
theorem sfind1_any (n : List UInt8) (p : Nat) (cs : List Value) (x : Sp) (S N : Nat → Prop) (w : World) (hx : SpN w S N cs x) (hp : Blk w p 9 #[.string (txt n)]) :
  Calls Tryz.prog 113 #[.agg cs.toArray, .pointer (some ⟨p, 0, none⟩)] w (fun r w' => r = .returned (.bool (x.1.name == n)) ∧ Below w.heap.size w w') := by
 obtain ⟨B, m, A, c, d, rfl, -, -, hk⟩ := hx.shape
 have hB : Below w.heap.size w (w.alloc (.cells (cT x.1.name x.1.kind x.1.typ x.1.low x.1.high x.1.names x.1.must x.1.most B m A x.2.len c) 61)) := bAl
 have HB := hHd hB
 have t1 : (txt n).toList = n := txt_toList n
 have t2 : (txt x.1.name).toList = x.1.name := txt_toList _
 have q0 : (w.alloc (.cells (cT x.1.name x.1.kind x.1.typ x.1.low x.1.high x.1.names x.1.must x.1.most B m A x.2.len c) 61)).cell? ⟨p, 0, none⟩ = some (.string (txt n)) := by rw [(hp.alloc _).cell]; rfl
 clear hx hB hk hp
 go_enter Tryz.func113, Tryz.ntmps113
 go_wp2
 go_ret
 exact ⟨rfl, HB.out⟩
theorem index_any (n : List UInt8) (p : Nat) (A : Option Addr) (c : Nat) (f : SpF) (S N : Nat → Prop) (w : World) (hx : FrV SpcD 9 8 w S N (.slice A f.len c) f) (hS : ∀ g, S g → g < w.heap.size) (hN : ∀ g, N g → g < w.heap.size) (hl : f.len ≤ 1000000) (hp : Blk w p 9 #[.string (txt n)]) :
  Calls Tryz.prog 112 #[.slice A f.len c, .func (.func 113) #[] #[.pointer (some ⟨p, 0, none⟩)]] w (AnsP (.int .i64 (findI n f)) w) := by
 have HK := hHd hx
 have HP := hHd hp
 have HpL : Hid (p < w.heap.size) := hHd hp.lt
 clear hx hp
 go_enter Tryz.func112, Tryz.ntmps112
 go_wp2
 go_loopw [8] (fun i wr => ∃ k : Nat, k ≤ f.len ∧ i = .int .i64 (k : Int) ∧ Hid (∀ j y, j < k → f.get? j = some y → y.1.name ≠ n) ∧ Hid (Below w.heap.size w wr)) (fun i _ => f.len - (intOf i).toNat)
 case atStart => exact ⟨0, Nat.zero_le _, rfl, hHd (fun j y h => by omega), hHd (Below.refl _ _)⟩
 case round =>
  obtain ⟨k, hk, rfl, HL, HB⟩ := hrel
  by_cases hlt : k < f.len
  ·obtain ⟨a, q, hg⟩ := Fr.get_some hlt
   have hkr : FrV SpcD 9 8 wr S N (.slice A f.len c) f := HK.out.kept stay_spc (fun g hg => HB.out.block g (hS g hg)) (fun _ h => h) (fun g hg => HB.out.block g (hN g hg)) (fun _ h => h)
   obtain ⟨b, o, c', cs', e, -, hSb, hNk, hcl⟩ := hkr.at hg
   injection e with e1 e2 e3
   subst e1 e3
   have HC := hHd (sfind1_any n p cs' (a, q) S N wr hNk (HP.out.below HB.out HpL.out))
   obtain ⟨B', m', A', c'', d', rfl, -, -, -⟩ := SpN.shape (x := (a, q)) hNk
   have i1 : (0 : Int) ≤ (k : Int) := by omega
   have i2 : (k : Int) < (f.len : Int) := by omega
   have q0 : wr.cell? ⟨b, o + k * 9, none⟩ = some (.string (txt a.name)) := hcl 0 _ rfl
   have q1 : wr.cell? ⟨b, o + k * 9 + 1, none⟩ = some (.int .i64 (a.kind : Int)) := hcl 1 _ rfl
   have q2 : wr.cell? ⟨b, o + k * 9 + 2, none⟩ = some (.int .i64 (a.typ : Int)) := hcl 2 _ rfl
   have q3 : wr.cell? ⟨b, o + k * 9 + 3, none⟩ = some (.int .u64 (a.low : Int)) := hcl 3 _ rfl
   have q4 : wr.cell? ⟨b, o + k * 9 + 4, none⟩ = some (.int .u64 (a.high : Int)) := hcl 4 _ rfl
   have q5 : wr.cell? ⟨b, o + k * 9 + 5, none⟩ = some (.slice B' a.names.length m') := hcl 5 _ rfl
   have q6 : wr.cell? ⟨b, o + k * 9 + 6, none⟩ = some (.bool a.must) := hcl 6 _ rfl
   have q7 : wr.cell? ⟨b, o + k * 9 + 7, none⟩ = some (.int .i64 (a.most : Int)) := hcl 7 _ rfl
   have q8 : wr.cell? ⟨b, o + k * 9 + 8, none⟩ = some (.slice A' q.len c'') := hcl 8 _ rfl
   have HG := hHd hg
   clear hcl hNk hg e2 hSb hkr
   by_cases hn : a.name = n
   ·have HT : Hid ((a.name == n) = true) := hHd (beq_iff_eq.2 hn)
    have HF : Hid (findI n f = (k : Int)) := hHd (by unfold findI; rw [find_is HG.out hn HL.out])
    clear hn
    go_wp2_with fail
    refine HC.out.mono ?_
    rintro r w1 ⟨rfl, hb1⟩
    rw [show ((a, q).1.name == n) = true from HT.out]
    have HB1 : Hid (Below w.heap.size w w1) := hHd (HB.out.trans (hb1.mono HB.out.size))
    clear hb1 q0 q1 q2 q3 q4 q5 q6 q7 q8
    go_wp2
    go_ret
    exact ⟨by rw [HF.out]; rfl, HB1.out⟩
   ·have HT : Hid ((a.name == n) = false) := hHd (beq_eq_false_iff_ne.2 hn)
    have HL2 : Hid (∀ j y, j < k + 1 → f.get? j = some y → y.1.name ≠ n) := hHd (fun j y hj hy => by
     by_cases e : j = k
     ·subst e; rw [HG.out] at hy; injection hy with hy; subst hy; exact hn
     ·exact HL.out j y (by omega) hy)
    clear hn
    go_wp2_with fail
    refine HC.out.mono ?_
    rintro r w1 ⟨rfl, hb1⟩
    rw [show ((a, q).1.name == n) = false from HT.out]
    have HB1 : Hid (Below w.heap.size w w1) := hHd (HB.out.trans (hb1.mono HB.out.size))
    clear hb1 q0 q1 q2 q3 q4 q5 q6 q7 q8
    go_wp2
    go_roundw
    case rel => exact ⟨k + 1, by omega, by go_num, HL2, HB1⟩
    case measure => simp [intOf]; omega
  ·have HF : Hid (findI n f = -1) := hHd (by unfold findI; rw [find_no (fun j y hy => HL.out j y (by have := Fr.get_lt hy; omega) hy)])
   have i2 : ¬ (k : Int) < (f.len : Int) := by omega
   go_wp2
   go_ret
   exact ⟨by rw [HF.out]; rfl, HB.out⟩
theorem sfind_any (n : List UInt8) (S N : Nat → Prop) (cs : List Value) (x : Sp) (w : World) (hx : SpN w S N cs x) (hS : ∀ g, S g → g < w.heap.size) (hN : ∀ g, N g → g < w.heap.size) (hl : x.2.len ≤ 1000000) :
  Calls Tryz.prog 96 #[.agg cs.toArray, .string (txt n)] w (AnsP (.int .i64 (findI n x.2)) w) := by
 obtain ⟨B, m, A, c, d, rfl, -, -, hk⟩ := hx.shape
 obtain ⟨W, hW⟩ : ∃ W, W = (w.alloc (.cells (cT x.1.name x.1.kind x.1.typ x.1.low x.1.high x.1.names x.1.must x.1.most B m A x.2.len c) 61)).alloc (.cells #[.string (txt n)] 9) := ⟨_, rfl⟩
 have hB : Below w.heap.size w W := by rw [hW]; exact bAl.alloc (by simp) _
 have hk2 : FrV SpcD 9 8 W S N (.slice A x.2.len c) x.2 := hk.kept stay_spc (fun g hg => hB.block g (hS g hg)) (fun _ h => h) (fun g hg => hB.block g (hN g hg)) (fun _ h => h)
 have hp : Blk W (w.heap.size + 1) 9 #[.string (txt n)] := by rw [hW]; have := Blk.new (w.alloc (.cells (cT x.1.name x.1.kind x.1.typ x.1.low x.1.high x.1.names x.1.must x.1.most B m A x.2.len c) 61)) 9 #[.string (txt n)]; simpa using this
 have hI := index_any n (w.heap.size + 1) A c x.2 S N W hk2 (fun g hg => Nat.lt_of_lt_of_le (hS g hg) hB.size) (fun g hg => Nat.lt_of_lt_of_le (hN g hg) hB.size) hl hp
 rw [hW] at hI
 have HC := hHd hI
 have HB := hHd (hW ▸ hB)
 have HBS : Hid (w.heap.size ≤ W.heap.size) := hHd hB.size
 clear hI hk2 hp hk hx hB
 subst hW
 have hmf : ∀ (fn : Fn) (first cap : Array Value) (w : World), (Instr.makeFunc fn first cap).run Tryz.prog w = .ok (.func fn first cap) w := fun _ _ _ _ => rfl
 go_enter Tryz.func96, Tryz.ntmps96
 go_wp2_with fail
 refine HC.out.mono ?_
 rintro r w1 ⟨rfl, hb1⟩
 have HB1 : Hid (Below w.heap.size w w1) := hHd (HB.out.trans (hb1.mono HBS.out))
 clear hb1
 go_wp2
 go_ret
 exact ⟨rfl, HB1.out⟩
end Go.Proofs.YtodlhgflfcadmaaGreat
