/- RngSeq RngSeqB -/
import Derived.Test.YtodlhgflfcadmaaGreatUM0
import Derived.RangeFuncNested
import Derived.RangeFuncBound
set_option linter.unusedSimpArgs false
set_option linter.unusedVariables false
set_option maxRecDepth 100000
set_option maxHeartbeats 8000000
namespace Go.Proofs.YtodlhgflfcadmaaGreat
open Go.RowKit
theorem room_none {F : Fence} (hd : F.depth = none) (k : Nat) : F.room k := fun d h => by rw [hd] at h; cases h
theorem roundIn_any {F : Fence} (hd : F.depth = none) {m m' : Nat} {P : Program} {l : Nat} {f : FuncId} {tmps : Array Value} {assign body : Code} {w : World} {R : Ending → World → Prop}
  (h : RoundIn F m P l f tmps assign body w R) : RoundIn F m' P l f tmps assign body w R := ⟨h.1, fun c cs _ => h.2 c cs (room_none hd _)⟩
theorem yieldAt_any {F : Fence} (hd : F.depth = none) {m : Nat} (m' : Nat) {P : Program} {l : Nat} {args : Array Value} {W : World} {R : Ending → World → Prop} (h : YieldAt F m P l args W R) : YieldAt F m' P l args W R := by
 obtain ⟨fn, tmps, assign, body, hy, hR⟩ := h
 exact ⟨fn, tmps, assign, body, hy, roundIn_any hd hR⟩
structure KeepN (N : Nat → Prop) (m : Nat) (A B : World) : Prop where
 os : B.os = A.os
 tape : B.tape = A.tape
 output : B.output = A.output
 size : A.heap.size ≤ B.heap.size
 block : ∀ k, k < A.heap.size → (N k ∨ m ≤ k) → B.heap[k]? = A.heap[k]?
section
variable {N N' : Nat → Prop} {m m' : Nat} {A B C : World}
theorem KeepN.refl (N : Nat → Prop) (m : Nat) (A : World) : KeepN N m A A := ⟨rfl, rfl, rfl, Nat.le_refl _, fun _ _ _ => rfl⟩
theorem KeepN.trans (h : KeepN N m A B) (k : KeepN N m B C) : KeepN N m A C :=
 ⟨k.os.trans h.os, k.tape.trans h.tape, k.output.trans h.output, Nat.le_trans h.size k.size, fun i hi hn => (k.block i (Nat.lt_of_lt_of_le hi h.size) hn).trans (h.block i hi hn)⟩
theorem KeepN.below (h : Below A.heap.size A B) : KeepN N m A B := ⟨h.os, h.tape, h.output, h.size, fun k hk _ => h.block k hk⟩
theorem KeepN.putObj (A : World) (l : Nat) (o : Obj) (h1 : ¬ N l) (h2 : l < m) : KeepN N m A (A.putObj l o) :=
 ⟨rfl, rfl, rfl, by simp, fun k _ hk => World.putObj_heap_other (by rintro rfl; rcases hk with hk | hk; exact h1 hk; omega)⟩
theorem KeepN.mono (h : KeepN N m A B) (hN : ∀ k, k < A.heap.size → (N' k ∨ m' ≤ k) → N k ∨ m ≤ k) : KeepN N' m' A B := ⟨h.os, h.tape, h.output, h.size, fun k hk hn => h.block k hk (hN k hk hn)⟩
theorem KeepN.from (h : KeepN N m A B) (hm : m ≤ m') : KeepsFrom m' A B := ⟨h.size, fun k o hk ho _ => (h.block k (Array.getElem?_eq_some_iff.1 ho).1 (.inr (Nat.le_trans hm hk))).trans ho⟩
theorem keepsFrom_mono {B1 B2 : Nat} (h : KeepsFrom B1 A B) (hb : B1 ≤ B2) : KeepsFrom B2 A B := ⟨h.size, fun k o hk ho hc => h.same k o (Nat.le_trans hb hk) ho hc⟩
theorem keepsFrom_put {B1 : Nat} (A : World) (l : Nat) (o : Obj) (h : l < B1) : KeepsFrom B1 A (A.putObj l o) := ⟨by simp, fun k o' hk ho _ => (World.putObj_heap_other (by omega)).trans ho⟩
end
def StB (B : Nat) (J : World → Prop) : Prop := ∀ A A', J A → Below B A A' → J A'
theorem StB.mono {B B' : Nat} {J : World → Prop} (h : StB B J) (hb : B ≤ B') : StB B' J := fun A A' hj hB => h A A' hj (hB.mono hb)
theorem StB.putObj {B : Nat} {J : World → Prop} (h : StB B J) {A : World} (l : Nat) (o : Obj) (hl : B ≤ l) (hj : J A) : J (A.putObj l o) :=
 h A _ hj ⟨rfl, rfl, rfl, by simp, fun k hk => World.putObj_heap_other (by omega)⟩
theorem StB.below {w : World} {B : Nat} : StB B (fun W => Below B w W) := fun _ _ h k => h.trans k
theorem StB.le {w : World} {B B' : Nat} (h : B' ≤ B) : StB B (fun W => Below B' w W) := fun _ _ h1 k => h1.trans (k.mono h)
theorem below_put (A : World) (l : Nat) (o : Obj) {b : Nat} (h : b ≤ l) : Below b A (A.putObj l o) := ⟨rfl, rfl, rfl, by simp, fun k hk => World.putObj_heap_other (by omega)⟩
def StopY (B : Nat) (Jx : World → Prop) (W1 : World) (e : Ending) (W' : World) : Prop := e = .returned (.bool false) ∧ Jx W' ∧ KeepsFrom B W1 W'
def SeqOne (P : Program) (g : Nat) (lb : Array Value) (Enc : Nat → Array Value → World → Prop) (has : Bool) (w : World) : Prop :=
 ∀ (l : Nat) (Jx : World → Prop) (W : World), Below w.heap.size w W → OwnFrom W.heap.size (fun (_ : Unit) V => Jx V) →
  (∀ args W1, Below W.heap.size W W1 → Enc W.heap.size args W1 → ∀ m, YieldAt Fence.wide m P l args W1 (StopY W.heap.size Jx W1)) →
  Calls P g (#[.func (.yield l) #[] #[]] ++ lb) W fun e W' => (∃ v, e = .returned v) ∧ (if has = true then Jx W' else Below W.heap.size W W')
def leftO (B : Nat) (X : Code → World → Prop) (W : World) : Exit → Act → World → Prop
 | .normal, _, _ => False
 | .ret, _, W' => KeepsFrom B W W' ∧ X .ret W'
 | .exit id, _, W' => KeepsFrom B W W' ∧ X (.exit id) W'
 | .goto t, _, W' => KeepsFrom B W W' ∧ X (.goto t) W'
 | .panic _, _, _ => False
 | .outgrown, _, _ => False
def GoY {α : Type} (B : Nat) (N : Nat → Prop) (J Jx : List α → World → Prop) (xs : List α) (W1 : World) (e : Ending) (W' : World) : Prop :=
 (e = .returned (.bool true) ∧ J xs W' ∧ KeepN N B W1 W') ∨ (e = .returned (.bool false) ∧ Jx xs W' ∧ KeepsFrom B W1 W')
def SeqG {α : Type} (P : Program) (g : Nat) (lb : Array Value) (Enc : Nat → α → Array Value → World → Prop) (N : Nat → Prop) (xs : List α) (w : World) : Prop :=
 ∀ (l : Nat) (J Jx : List α → World → Prop) (W : World), Below w.heap.size w W → (∀ s, StB W.heap.size (J s)) → OwnFrom W.heap.size Jx →
  (∀ pre x post args W1, xs = pre ++ x :: post → J pre W1 → Enc W.heap.size x args W1 → ∀ m, YieldAt Fence.wide m P l args W1 (GoY W.heap.size N J Jx (pre ++ [x]) W1)) →
  J [] W → Calls P g (#[.func (.yield l) #[] #[]] ++ lb) W fun e W' => (∃ v, e = .returned v) ∧ (J xs W' ∨ ∃ pre x post, xs = pre ++ x :: post ∧ Jx (pre ++ [x]) W')
def leftG {α : Type} (B : Nat) (N : Nat → Prop) (I : List α → World → Prop) (Ix : Code → List α → World → Prop) (xs : List α) (W : World) : Exit → Act → World → Prop
 | .normal, _, W' => KeepN N B W W' ∧ I xs W'
 | .ret, _, W' => KeepsFrom B W W' ∧ Ix .ret xs W'
 | .exit id, _, W' => KeepsFrom B W W' ∧ Ix (.exit id) xs W'
 | .goto t, _, W' => KeepsFrom B W W' ∧ Ix (.goto t) xs W'
 | .panic _, _, _ => False
 | .outgrown, _, _ => False
section
variable {P : Program} {n : Nat} {g : Operand} {ps : Array Tmp} {assign body : Code} {Q : Exit → Act → World → Prop} {a : Act} {w : World} {gf : Nat} {lb : Array Value} {w0 : World}
theorem wpIn_range_one (h1 : 1 ≤ n) (hg : a.eval g = .func (.func gf) #[] lb) (eg : ∀ args w, (callFunc gf args).run P w = .ok (.enter gf args) w)
  {Enc : Nat → Array Value → World → Prop} {has : Bool} (hseq : SeqOne P gf lb Enc has w0) (hb0 : Below w0.heap.size w0 w)
  (hps : ∀ B args W, Enc B args W → args.size = ps.size) (hEm : ∀ B B' args W, B' ≤ B → Enc B args W → Enc B' args W)
  (X : Code → World → Prop) (hX : ∀ c, OwnFrom w.heap.size (fun (_ : Unit) V => X c V)) (Ax : Act → World → Prop) (hAx : ∀ a', OwnFrom w.heap.size (fun (_ : Unit) W => Ax a' W))
  (hassign : ∀ (l : Nat) (args : Array Value) (W : World) (K : Act → World → Prop), Below w.heap.size w W → Enc w.heap.size args W →
   (∀ a' W', KeepsFrom w.heap.size W W' → Ax a' W' → K a' W') →
   assign.wpIn (Fence.wide.inRound l) (n - 1 - 1) P (Exit.then K (fun _ _ _ => False)) { tmps := (ps.zip args).foldl (fun t (p, v) => t.setIfInBounds p v) a.tmps, defers := [] } W)
  (hbody : ∀ (l : Nat) (a' : Act) (W : World), w.heap.size ≤ l → Ax a' W → body.wpIn (Fence.wide.inRound l) (n - 1 - 1) P (leftO w.heap.size X W) a' W)
  (hdone : has = false → ∀ (D : Nat) (W : World), w.heap.size ≤ D → Below w.heap.size w W → W.heap[D]? = some (.deferred (some [])) → Q .normal { a with defers := { target := .collected D, args := #[] } :: a.defers } W)
  (hstop : has = true → ∀ (D : Nat) (c : Code) (W : World), w.heap.size ≤ D → X c W → W.heap[D]? = some (.deferred (some [])) → c.wpIn Fence.wide n P Q { a with defers := { target := .collected D, args := #[] } :: a.defers } W) :
  (Code.rangeFunc g ps assign body).wpIn Fence.wide n P Q a w := by
 refine wpIn_rangeFunc fun fn hfn => ?_
 rw [show Fence.wide.round = none from rfl]
 obtain ⟨D, hD⟩ : ∃ D, D = w.heap.size := ⟨_, rfl⟩
 obtain ⟨L, hL⟩ : ∃ L, L = w.heap.size + 1 := ⟨_, rfl⟩
 have hDL : D ≠ L := by omega
 let st : LoopState → Option Code → Obj := fun s j => .loop { state := s, pending := j, fn, tmps := a.tmps, params := ps, assign, body, defers := D }
 let dv : Obj := .deferred (some [])
 let W1 : World := (w.alloc dv).alloc (st .ready none)
 have e1 : W1.heap[L]? = some (st .ready none) := by
  have h := World.alloc_heap_new (w.alloc dv) (st .ready none)
  rw [World.size_alloc, ← hL] at h
  exact h
 have e2 : W1.heap[D]? = some dv := by rw [hD]; exact (Below.heap_alloc _ _ _ (by simp)).trans (World.alloc_heap_new w dv)
 have eB : Below w.heap.size w W1 := ((Below.refl _ w).alloc (Nat.le_refl _) _).alloc (by simp) _
 have eS : W1.heap.size = w.heap.size + 2 := by show ((w.alloc dv).alloc (st .ready none)).heap.size = _; simp
 have hrun := run_enterLoop_outer (P := P) (w := w) fn a.tmps ps assign body
 rw [← hD, show D + 1 = L by omega] at hrun
 refine ⟨L, [{ target := .collected D, args := #[] }], W1, { target := .fn (.func gf) lb, args := #[.func (.yield L) #[] #[]] }, W1, gf, #[.func (.yield L) #[] #[]] ++ lb, W1, hrun, ?_, ?_, ?_, fun _ => h1, ?_⟩
 ·simp only [resolve, hg]
  simp [go_sem]
 ·intro f' h'
  exact trivial
 ·simp [invoke, go_sem, eg]
 have hcall := hseq L
  (fun W => ∃ c, X c W ∧ W.heap[L]? = some (st .done (some c)) ∧ W.heap[D]? = some dv)
  W1 (hb0.trans (eB.mono hb0.size))
  (fun s A B row h hg' hr => by
   obtain ⟨c, hc, h2, h3⟩ := h
   have hfar : ∀ r, row = some r → w.heap.size ≤ r ∧ ∃ o : Obj, A.heap[r]? = some o ∧ o.isCells = false := fun r e => by
    obtain ⟨h4, h5⟩ := hr r e
    exact ⟨by omega, h5⟩
   exact ⟨c, hX c () A B row hc hg' hfar, (hg'.block L (Array.getElem?_eq_some_iff.1 h2).1 (fun e => by have := (hr L e.symm).1; omega)).trans h2, (hg'.block D (Array.getElem?_eq_some_iff.1 h3).1 (fun e => by have := (hr D e.symm).1; omega)).trans h3⟩)
  ?round
 case round =>
  intro args W hbW henc m
  have hl : W.heap[L]? = some (st .ready none) := (hbW.block L (by omega)).trans e1
  have hk : W.heap[D]? = some dv := (hbW.block D (by omega)).trans e2
  have henc' := hEm _ w.heap.size _ _ (by omega) henc
  refine yieldAt_any (m := n - 1 - 1) rfl m ?_
  refine ⟨fn, _, assign, body, run_yield (P := P) (args := args) hl (hps _ _ _ henc), roundIn_of_wpIn hfn (hassign L args W _ (eB.trans (hbW.mono (by omega))) henc' ?_)⟩
  intro a' V hVk hVa
  have vl : V.heap[L]? = some (st .ready none) := hVk.same _ _ (by omega) hl rfl
  have vk : V.heap[D]? = some dv := hVk.same _ _ (by omega) hk rfl
  have vlt : L < V.heap.size := (Array.getElem?_eq_some_iff.1 vl).1
  obtain ⟨U, hU⟩ : ∃ U, U = V.putObj L (st .busy none) := ⟨_, rfl⟩
  have ul : U.heap[L]? = some (st .busy none) := by rw [hU]; exact World.putObj_heap_same vlt
  have uk : U.heap[D]? = some dv := by rw [hU]; exact (World.putObj_heap_other hDL).trans vk
  refine ⟨U, by rw [hU]; exact run_beginRound vl rfl, ?_⟩
  have ua : Ax a' U := by rw [hU]; exact (hAx a').putObj (s := ()) _ hVa (by omega) vl rfl
  have uK : KeepsFrom W1.heap.size V U := by rw [hU]; exact keepsFrom_put _ _ _ (by omega)
  have leave : ∀ (c : Code) (Z : World), KeepsFrom w.heap.size U Z → X c Z → ∃ v Z', (Instr.endRound L (some c)).run P Z = .ok v Z' ∧
    StopY W1.heap.size (fun W => ∃ c, X c W ∧ W.heap[L]? = some (st .done (some c)) ∧ W.heap[D]? = some dv) W (.returned v) Z' := fun c Z hZ hx => by
   have zl := hZ.same _ _ (by omega) ul rfl
   have zk := hZ.same _ _ (by omega) uk rfl
   refine ⟨_, _, run_endRound (P := P) (some c) zl, rfl, ⟨c, (hX c).putObj (s := ()) _ hx (by omega) zl rfl, World.putObj_heap_same (Array.getElem?_eq_some_iff.1 zl).1, (World.putObj_heap_other hDL).trans zk⟩, ?_⟩
   exact (((keepsFrom_mono hVk (by omega)).trans uK).trans (keepsFrom_mono hZ (by omega))).trans (keepsFrom_put _ _ _ (by omega))
  refine wpIn_mono (hbody L a' U (by omega) ua) ?_
  rintro e b Z hp
  cases e with
  | normal => exact hp.elim
  | ret => exact leave _ Z hp.1 hp.2
  | exit id => exact leave _ Z hp.1 hp.2
  | goto t => exact leave _ Z hp.1 hp.2
  | panic ch => exact hp.elim
  | outgrown => exact hp.elim
 refine (callsIn_wide.2 hcall).mono ?_
 rintro e Z ⟨⟨v, rfl⟩, hz⟩
 cases hh : has with
 | true =>
  rw [hh, if_pos rfl] at hz
  obtain ⟨c, hc, zl, zk⟩ := hz
  exact ⟨some c, _, run_endLoop (P := P) zl (by simp), hstop hh D c _ (by omega) ((hX c).putObj (s := ()) _ hc (by omega) zl rfl) ((World.putObj_heap_other hDL).trans zk)⟩
 | false =>
  rw [hh, if_neg (by simp)] at hz
  have zl : Z.heap[L]? = some (st .ready none) := (hz.block L (by omega)).trans e1
  have zk : Z.heap[D]? = some dv := (hz.block D (by omega)).trans e2
  exact ⟨none, _, run_endLoop (P := P) zl (by simp), hdone hh D _ (by omega) ((eB.trans (hz.mono (by omega))).trans (below_put _ _ _ (by omega))) ((World.putObj_heap_other hDL).trans zk)⟩
end
section
variable {P : Program} {n : Nat} {g : Operand} {ps : Array Tmp} {assign body : Code} {Q : Exit → Act → World → Prop} {a : Act} {w : World} {gf : Nat} {lb : Array Value} {w0 : World} {α : Type}
theorem wpIn_range_go (h1 : 1 ≤ n) (hg : a.eval g = .func (.func gf) #[] lb) (eg : ∀ args w, (callFunc gf args).run P w = .ok (.enter gf args) w)
  {Enc : Nat → α → Array Value → World → Prop} {N : Nat → Prop} {xs : List α} (hseq : SeqG P gf lb Enc N xs w0) (hb0 : Below w0.heap.size w0 w) (hN : ∀ k, N k → k < w.heap.size)
  (hps : ∀ B x args W, Enc B x args W → args.size = ps.size) (hEm : ∀ B B' x args W, B' ≤ B → Enc B x args W → Enc B' x args W)
  (I : List α → World → Prop) (Ix : Code → List α → World → Prop) (hI : ∀ s, StB w.heap.size (I s)) (hIx : ∀ c, OwnFrom w.heap.size (Ix c)) (h0 : I [] w) (Ax : α → Act → World → Prop) (hAx : ∀ x a', OwnFrom w.heap.size (fun (_ : Unit) W => Ax x a' W))
  (hassign : ∀ (l : Nat) (pre : List α) (x : α) (args : Array Value) (W : World) (K : Act → World → Prop), I pre W → Enc w.heap.size x args W →
   (∀ a' W', KeepsFrom w.heap.size W W' → KeepN N w.heap.size W W' → I pre W' → Ax x a' W' → K a' W') →
   assign.wpIn (Fence.wide.inRound l) (n - 1 - 1) P (Exit.then K (fun _ _ _ => False)) { tmps := (ps.zip args).foldl (fun t (p, v) => t.setIfInBounds p v) a.tmps, defers := [] } W)
  (hbody : ∀ (l : Nat) (pre : List α) (x : α) (post : List α) (a' : Act) (W : World), w.heap.size ≤ l → (∃ r, W.heap[l]? = some (.loop r)) → xs = pre ++ x :: post → I pre W → Ax x a' W → body.wpIn (Fence.wide.inRound l) (n - 1 - 1) P (leftG w.heap.size N I Ix (pre ++ [x]) W) a' W)
  (hdone : ∀ (D : Nat) (W : World), w.heap.size ≤ D → I xs W → W.heap[D]? = some (.deferred (some [])) → Q .normal { a with defers := { target := .collected D, args := #[] } :: a.defers } W)
  (hstop : ∀ (D : Nat) (c : Code) (pre : List α) (x : α) (post : List α) (W : World), w.heap.size ≤ D → xs = pre ++ x :: post → Ix c (pre ++ [x]) W → W.heap[D]? = some (.deferred (some [])) → c.wpIn Fence.wide n P Q { a with defers := { target := .collected D, args := #[] } :: a.defers } W) :
  (Code.rangeFunc g ps assign body).wpIn Fence.wide n P Q a w := by
 refine wpIn_rangeFunc fun fn hfn => ?_
 rw [show Fence.wide.round = none from rfl]
 obtain ⟨D, hD⟩ : ∃ D, D = w.heap.size := ⟨_, rfl⟩
 obtain ⟨L, hL⟩ : ∃ L, L = w.heap.size + 1 := ⟨_, rfl⟩
 have hDL : D ≠ L := by omega
 let st : LoopState → Option Code → Obj := fun s j => .loop { state := s, pending := j, fn, tmps := a.tmps, params := ps, assign, body, defers := D }
 let dv : Obj := .deferred (some [])
 let W1 : World := (w.alloc dv).alloc (st .ready none)
 have e1 : W1.heap[L]? = some (st .ready none) := by
  have h := World.alloc_heap_new (w.alloc dv) (st .ready none)
  rw [World.size_alloc, ← hL] at h
  exact h
 have e2 : W1.heap[D]? = some dv := by rw [hD]; exact (Below.heap_alloc _ _ _ (by simp)).trans (World.alloc_heap_new w dv)
 have eB : Below w.heap.size w W1 := ((Below.refl _ w).alloc (Nat.le_refl _) _).alloc (by simp) _
 have eS : W1.heap.size = w.heap.size + 2 := by show ((w.alloc dv).alloc (st .ready none)).heap.size = _; simp
 have hrun := run_enterLoop_outer (P := P) (w := w) fn a.tmps ps assign body
 rw [← hD, show D + 1 = L by omega] at hrun
 refine ⟨L, [{ target := .collected D, args := #[] }], W1, { target := .fn (.func gf) lb, args := #[.func (.yield L) #[] #[]] }, W1, gf, #[.func (.yield L) #[] #[]] ++ lb, W1, hrun, ?_, ?_, ?_, fun _ => h1, ?_⟩
 ·simp only [resolve, hg]
  simp [go_sem]
 ·intro f' h'
  exact trivial
 ·simp [invoke, go_sem, eg]
 have hLs : L < W1.heap.size := by omega
 have hDs : D < W1.heap.size := by omega
 have hcall := hseq L
  (fun pre W => I pre W ∧ W.heap[L]? = some (st .ready none) ∧ W.heap[D]? = some dv)
  (fun pre W => ∃ c, Ix c pre W ∧ W.heap[L]? = some (st .done (some c)) ∧ W.heap[D]? = some dv)
  W1 (hb0.trans (eB.mono hb0.size))
  (fun s A A' h hB => ⟨(hI s).mono (by omega) A A' h.1 hB, (hB.block L hLs).trans h.2.1, (hB.block D hDs).trans h.2.2⟩)
  (fun s A B row h hg' hr => by
   obtain ⟨c, hc, h2, h3⟩ := h
   exact ⟨c, hIx c s A B row hc hg' (fun r e => ⟨by have := (hr r e).1; omega, (hr r e).2⟩), (hg'.block L (Array.getElem?_eq_some_iff.1 h2).1 (fun e => by have := (hr L e.symm).1; omega)).trans h2, (hg'.block D (Array.getElem?_eq_some_iff.1 h3).1 (fun e => by have := (hr D e.symm).1; omega)).trans h3⟩)
  ?round ⟨(hI []) w W1 h0 eB, e1, e2⟩
 case round =>
  rintro pre x post args W hxs ⟨hi, hl, hk⟩ henc m
  have henc' := hEm _ w.heap.size _ _ _ (by omega) henc
  refine yieldAt_any (m := n - 1 - 1) rfl m ?_
  refine ⟨fn, _, assign, body, run_yield (P := P) (args := args) hl (hps _ _ _ _ henc), roundIn_of_wpIn hfn (hassign L pre x args W _ hi henc' ?_)⟩
  intro a' V hVk hVn hVi hVa
  have vl : V.heap[L]? = some (st .ready none) := hVk.same _ _ (by omega) hl rfl
  have vk : V.heap[D]? = some dv := hVk.same _ _ (by omega) hk rfl
  have vlt : L < V.heap.size := (Array.getElem?_eq_some_iff.1 vl).1
  obtain ⟨U, hU⟩ : ∃ U, U = V.putObj L (st .busy none) := ⟨_, rfl⟩
  have ul : U.heap[L]? = some (st .busy none) := by rw [hU]; exact World.putObj_heap_same vlt
  have uk : U.heap[D]? = some dv := by rw [hU]; exact (World.putObj_heap_other hDL).trans vk
  refine ⟨U, by rw [hU]; exact run_beginRound vl rfl, ?_⟩
  have ua : Ax x a' U := by rw [hU]; exact (hAx x a').putObj (s := ()) _ hVa (by omega) vl rfl
  have ui : I pre U := by rw [hU]; exact (hI pre).putObj _ _ (by omega) hVi
  have uK : KeepsFrom W1.heap.size V U := by rw [hU]; exact keepsFrom_put _ _ _ hLs
  have uN : KeepN N W1.heap.size V U := by rw [hU]; exact KeepN.putObj _ _ _ (fun h => by have := hN _ h; omega) hLs
  have vN : KeepN N W1.heap.size W V := hVn.mono (fun k _ h => by rcases h with h | h; exact .inl h; exact .inr (by omega))
  have leave : ∀ (c : Code) (Z : World), KeepsFrom w.heap.size U Z → Ix c (pre ++ [x]) Z → ∃ v Z', (Instr.endRound L (some c)).run P Z = .ok v Z' ∧
    GoY W1.heap.size N (fun pre W => I pre W ∧ W.heap[L]? = some (st .ready none) ∧ W.heap[D]? = some dv) (fun pre W => ∃ c, Ix c pre W ∧ W.heap[L]? = some (st .done (some c)) ∧ W.heap[D]? = some dv) (pre ++ [x]) W (.returned v) Z' := fun c Z hZ hx => by
   have zl := hZ.same _ _ (by omega) ul rfl
   have zk := hZ.same _ _ (by omega) uk rfl
   refine ⟨_, _, run_endRound (P := P) (some c) zl, .inr ⟨rfl, ⟨c, (hIx c).putObj _ hx (by omega) zl rfl, World.putObj_heap_same (Array.getElem?_eq_some_iff.1 zl).1, (World.putObj_heap_other hDL).trans zk⟩, ?_⟩⟩
   exact (((keepsFrom_mono hVk (by omega)).trans uK).trans (keepsFrom_mono hZ (by omega))).trans (keepsFrom_put _ _ _ hLs)
  refine wpIn_mono (hbody L pre x post a' U (by omega) ⟨_, ul⟩ hxs ui ua) ?_
  rintro e b Z hp
  cases e with
  | normal =>
   obtain ⟨hZn, hZi⟩ := hp
   have zl : Z.heap[L]? = some (st .busy none) := (hZn.block L (Array.getElem?_eq_some_iff.1 ul).1 (.inr (by omega))).trans ul
   have zk : Z.heap[D]? = some dv := (hZn.block D (Array.getElem?_eq_some_iff.1 uk).1 (.inr (by omega))).trans uk
   have zN : KeepN N W1.heap.size U Z := hZn.mono (fun k _ h => by rcases h with h | h; exact .inl h; exact .inr (by omega))
   refine ⟨_, _, run_endRound (P := P) none zl, .inl ⟨rfl, ⟨(hI _).putObj _ _ (by omega) hZi, World.putObj_heap_same (Array.getElem?_eq_some_iff.1 zl).1, (World.putObj_heap_other hDL).trans zk⟩, ?_⟩⟩
   exact ((vN.trans uN).trans zN).trans (KeepN.putObj _ _ _ (fun h => by have := hN _ h; omega) hLs)
  | ret => exact leave _ Z hp.1 hp.2
  | exit id => exact leave _ Z hp.1 hp.2
  | goto t => exact leave _ Z hp.1 hp.2
  | panic ch => exact hp.elim
  | outgrown => exact hp.elim
 refine (callsIn_wide.2 hcall).mono ?_
 rintro e Z ⟨⟨v, rfl⟩, (⟨hi, zl, zk⟩ | ⟨pre, x, post, hxs, c, hc, zl, zk⟩)⟩
 ·exact ⟨none, _, run_endLoop (P := P) zl (by simp), hdone D _ (by omega) ((hI _).putObj _ _ (by omega) hi) ((World.putObj_heap_other hDL).trans zk)⟩
 ·exact ⟨some c, _, run_endLoop (P := P) zl (by simp), hstop D c pre x post _ (by omega) hxs ((hIx c).putObj _ hc (by omega) zl rfl) ((World.putObj_heap_other hDL).trans zk)⟩
theorem wpIn_range_in {F : Fence} {l₀ : Nat} {r₀ : Loop} (hF : F = Fence.wide.inRound l₀) (hl₀ : w.heap[l₀]? = some (.loop r₀)) (h1 : 1 ≤ n) (hg : a.eval g = .func (.func gf) #[] lb) (eg : ∀ args w, (callFunc gf args).run P w = .ok (.enter gf args) w)
  {Enc : Nat → α → Array Value → World → Prop} {N : Nat → Prop} {xs : List α} (hseq : SeqG P gf lb Enc N xs w0) (hb0 : Below w0.heap.size w0 w) (hN : ∀ k, N k → k < w.heap.size)
  (hps : ∀ B x args W, Enc B x args W → args.size = ps.size) (hEm : ∀ B B' x args W, B' ≤ B → Enc B x args W → Enc B' x args W)
  (I : List α → World → Prop) (Ix : Code → List α → World → Prop) (hI : ∀ s, StB w.heap.size (I s)) (hIx : ∀ c, OwnFrom w.heap.size (Ix c)) (h0 : I [] w) (Ax : α → Act → World → Prop) (hAx : ∀ x a', OwnFrom w.heap.size (fun (_ : Unit) W => Ax x a' W))
  (hassign : ∀ (l : Nat) (pre : List α) (x : α) (args : Array Value) (W : World) (K : Act → World → Prop), I pre W → Enc w.heap.size x args W →
   (∀ a' W', KeepsFrom w.heap.size W W' → KeepN N w.heap.size W W' → I pre W' → Ax x a' W' → K a' W') →
   assign.wpIn (F.inRound l) (n - 1 - 1) P (Exit.then K (fun _ _ _ => False)) { tmps := (ps.zip args).foldl (fun t (p, v) => t.setIfInBounds p v) a.tmps, defers := [] } W)
  (hbody : ∀ (l : Nat) (pre : List α) (x : α) (post : List α) (a' : Act) (W : World), w.heap.size ≤ l → (∃ r, W.heap[l]? = some (.loop r)) → xs = pre ++ x :: post → I pre W → Ax x a' W → body.wpIn (F.inRound l) (n - 1 - 1) P (leftG w.heap.size N I Ix (pre ++ [x]) W) a' W)
  (hdone : ∀ (W : World), I xs W → Q .normal a W)
  (hstop : ∀ (c : Code) (pre : List α) (x : α) (post : List α) (W : World), xs = pre ++ x :: post → Ix c (pre ++ [x]) W → c.wpIn F n P Q a W) :
  (Code.rangeFunc g ps assign body).wpIn F n P Q a w := by
 subst hF
 refine wpIn_rangeFunc fun fn hfn => ?_
 rw [show (Fence.wide.inRound l₀).round = some l₀ from rfl]
 obtain ⟨L, hL⟩ : ∃ L, L = w.heap.size := ⟨_, rfl⟩
 let st : LoopState → Option Code → Obj := fun s j => .loop { state := s, pending := j, fn, tmps := a.tmps, params := ps, assign, body, defers := r₀.defers }
 let W1 : World := w.alloc (st .ready none)
 have e1 : W1.heap[L]? = some (st .ready none) := by rw [hL]; exact World.alloc_heap_new w (st .ready none)
 have eB : Below w.heap.size w W1 := (Below.refl _ w).alloc (Nat.le_refl _) _
 have eS : W1.heap.size = w.heap.size + 1 := by show (w.alloc (st .ready none)).heap.size = _; simp
 have hrun := run_enterLoop_inner (P := P) (w := w) hl₀ fn a.tmps ps assign body
 rw [← hL] at hrun
 refine ⟨L, [], W1, { target := .fn (.func gf) lb, args := #[.func (.yield L) #[] #[]] }, W1, gf, #[.func (.yield L) #[] #[]] ++ lb, W1, hrun, ?_, ?_, ?_, fun _ => h1, ?_⟩
 ·simp only [resolve, hg]
  simp [go_sem]
 ·intro f' h'
  exact trivial
 ·simp [invoke, go_sem, eg]
 have hLs : L < W1.heap.size := by omega
 have hcall := hseq L
  (fun pre W => I pre W ∧ W.heap[L]? = some (st .ready none))
  (fun pre W => ∃ c, Ix c pre W ∧ W.heap[L]? = some (st .done (some c)))
  W1 (hb0.trans (eB.mono hb0.size))
  (fun s A A' h hB => ⟨(hI s).mono (by omega) A A' h.1 hB, (hB.block L hLs).trans h.2⟩)
  (fun s A B row h hg' hr => by
   obtain ⟨c, hc, h2⟩ := h
   exact ⟨c, hIx c s A B row hc hg' (fun r e => ⟨by have := (hr r e).1; omega, (hr r e).2⟩), (hg'.block L (Array.getElem?_eq_some_iff.1 h2).1 (fun e => by have := (hr L e.symm).1; omega)).trans h2⟩)
  ?round ⟨(hI []) w W1 h0 eB, e1⟩
 case round =>
  rintro pre x post args W hxs ⟨hi, hl⟩ henc m
  have henc' := hEm _ w.heap.size _ _ _ (by omega) henc
  refine yieldAt_any (m := n - 1 - 1) rfl m ?_
  refine ⟨fn, _, assign, body, run_yield (P := P) (args := args) hl (hps _ _ _ _ henc), roundIn_of_wpIn hfn (hassign L pre x args W _ hi henc' ?_)⟩
  intro a' V hVk hVn hVi hVa
  have vl : V.heap[L]? = some (st .ready none) := hVk.same _ _ (by omega) hl rfl
  have vlt : L < V.heap.size := (Array.getElem?_eq_some_iff.1 vl).1
  obtain ⟨U, hU⟩ : ∃ U, U = V.putObj L (st .busy none) := ⟨_, rfl⟩
  have ul : U.heap[L]? = some (st .busy none) := by rw [hU]; exact World.putObj_heap_same vlt
  refine ⟨U, by rw [hU]; exact run_beginRound vl rfl, ?_⟩
  have ua : Ax x a' U := by rw [hU]; exact (hAx x a').putObj (s := ()) _ hVa (by omega) vl rfl
  have ui : I pre U := by rw [hU]; exact (hI pre).putObj _ _ (by omega) hVi
  have uK : KeepsFrom W1.heap.size V U := by rw [hU]; exact keepsFrom_put _ _ _ hLs
  have uN : KeepN N W1.heap.size V U := by rw [hU]; exact KeepN.putObj _ _ _ (fun h => by have := hN _ h; omega) hLs
  have vN : KeepN N W1.heap.size W V := hVn.mono (fun k _ h => by rcases h with h | h; exact .inl h; exact .inr (by omega))
  have leave : ∀ (c : Code) (Z : World), KeepsFrom w.heap.size U Z → Ix c (pre ++ [x]) Z → ∃ v Z', (Instr.endRound L (some c)).run P Z = .ok v Z' ∧
    GoY W1.heap.size N (fun pre W => I pre W ∧ W.heap[L]? = some (st .ready none)) (fun pre W => ∃ c, Ix c pre W ∧ W.heap[L]? = some (st .done (some c))) (pre ++ [x]) W (.returned v) Z' := fun c Z hZ hx => by
   have zl := hZ.same _ _ (by omega) ul rfl
   refine ⟨_, _, run_endRound (P := P) (some c) zl, .inr ⟨rfl, ⟨c, (hIx c).putObj _ hx (by omega) zl rfl, World.putObj_heap_same (Array.getElem?_eq_some_iff.1 zl).1⟩, ?_⟩⟩
   exact (((keepsFrom_mono hVk (by omega)).trans uK).trans (keepsFrom_mono hZ (by omega))).trans (keepsFrom_put _ _ _ hLs)
  refine wpIn_mono (hbody L pre x post a' U (by omega) ⟨_, ul⟩ hxs ui ua) ?_
  rintro e b Z hp
  cases e with
  | normal =>
   obtain ⟨hZn, hZi⟩ := hp
   have zl : Z.heap[L]? = some (st .busy none) := (hZn.block L (Array.getElem?_eq_some_iff.1 ul).1 (.inr (by omega))).trans ul
   have zN : KeepN N W1.heap.size U Z := hZn.mono (fun k _ h => by rcases h with h | h; exact .inl h; exact .inr (by omega))
   refine ⟨_, _, run_endRound (P := P) none zl, .inl ⟨rfl, ⟨(hI _).putObj _ _ (by omega) hZi, World.putObj_heap_same (Array.getElem?_eq_some_iff.1 zl).1⟩, ?_⟩⟩
   exact ((vN.trans uN).trans zN).trans (KeepN.putObj _ _ _ (fun h => by have := hN _ h; omega) hLs)
  | ret => exact leave _ Z hp.1 hp.2
  | exit id => exact leave _ Z hp.1 hp.2
  | goto t => exact leave _ Z hp.1 hp.2
  | panic ch => exact hp.elim
  | outgrown => exact hp.elim
 refine (callsIn_wide.2 hcall).mono ?_
 rintro e Z ⟨⟨v, rfl⟩, (⟨hi, zl⟩ | ⟨pre, x, post, hxs, c, hc, zl⟩)⟩
 ·exact ⟨none, _, run_endLoop (P := P) zl (by simp), hdone _ ((hI _).putObj _ _ (by omega) hi)⟩
 ·exact ⟨some c, _, run_endLoop (P := P) zl (by simp), hstop c pre x post _ hxs ((hIx c).putObj _ hc (by omega) zl rfl)⟩
end
end Go.Proofs.YtodlhgflfcadmaaGreat
