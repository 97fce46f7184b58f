/-
  A range over a function whose elements lie in memory: the iterator tells what is so of an element in the world in which it yields it (G), and what is so of all of them in the world that it leaves (S, Sp). No program; no condition but those of each theorem.
-/
import Derived.RangeFuncNested
import Derived.RangeFuncBound
import Derived.RangeFuncCalls
import Derived.RangeFuncLeaves
namespace Go.Proofs.YtepcaaejadeklaaDoor
open Go.RowKit
variable {F : Fence} {n : Nat} {P : Program}

/-- The iterator's word: of each element it tells G where it yields it; it returns, and tells S of all, or Sp of those up to the round that said 'no more'. -/
def SeqM {α : Type} (F : Fence) (n : Nat) (P : Program) (g : Nat) (lb : Array Value) (encs : α → Array Value) (G : α → World → Prop) (Kp : World → World → Prop) (S Sp : List α → World → Prop) (N : Nat) (w : World) : Prop :=
  ∀ (l : Nat) (J Jx : List α → World → Prop) (W : World), Below w.heap.size w W → AbidesFrom W.heap.size J → AbidesFrom W.heap.size Jx →
    (∀ pre x W1, J pre W1 → G x W1 → pre.length < N → YieldAt F (n - 1) P l (encs x) W1 fun e W' =>
      ((e = .returned (.bool true) ∧ J (pre ++ [x]) W') ∨ (e = .returned (.bool false) ∧ Jx (pre ++ [x]) W')) ∧ Kp W1 W') →
    J [] W →
    CallsIn F n P g (#[.func (.yield l) #[] #[]] ++ lb) W fun e W' => (∃ v, e = .returned v) ∧ ((∃ xs, S xs W' ∧ J xs W') ∨ (∃ pre, Sp pre W' ∧ Jx pre W'))

/-- How a round's body may be left. -/
def leftM {α : Type} (B : Nat) (Kp : World → World → Prop) (I : List α → World → Prop) (Ix : Code → List α → World → Prop) (xs : List α) (W : World) : Exit → Act → World → Prop
  | .normal, _, W' => KeepsFrom B W W' ∧ Kp W W' ∧ I xs W'
  | .ret, _, W' => KeepsFrom B W W' ∧ Kp W W' ∧ Ix .ret xs W'
  | .exit id, _, W' => KeepsFrom B W W' ∧ Kp W W' ∧ Ix (.exit id) xs W'
  | .goto t, _, W' => KeepsFrom B W W' ∧ Kp W W' ∧ Ix (.goto t) xs W'
  | .panic _, _, _ => False
  | .outgrown, _, _ => False

theorem wpIn_range_mem {α : Type} {g : Operand} {ps : Array Tmp} {assign body : Code} {Q : Exit → Act → World → Prop} {a : Act} {w : World}
    (hro : F.round = none) (h1 : 1 ≤ n) {gf : Nat} {lb : Array Value} (hg : a.eval g = .func (.func gf) #[] lb) (hFg : F.fn gf) (eg : ∀ args w, (callFunc gf args).run P w = .ok (.enter gf args) w)
    {encs : α → Array Value} {G : α → World → Prop} {Kp : World → World → Prop} {S Sp : List α → World → Prop} {N : Nat} {w0 : World} (hseq : SeqM F (n - 1) P gf lb encs G Kp S Sp N w0)
    (hKt : ∀ {A B C : World}, Kp A B → Kp B C → Kp A C) (hKb : ∀ (W : World) (l : Nat) (o o' : Obj), w.heap.size ≤ l → W.heap[l]? = some o → o.isCells = false → o.isWalk = false → Kp W (W.putObj l o'))
    (hb0 : Below w0.heap.size w0 w) (hps : ∀ x, (encs x).size = ps.size)
    (I : List α → World → Prop) (Ix : Code → List α → World → Prop) (hI : OwnFrom w.heap.size I) (hIx : ∀ c, OwnFrom w.heap.size (Ix c)) (hG : OwnFrom w.heap.size G) (hS : OwnFrom w.heap.size S) (hSp : OwnFrom w.heap.size Sp)
    (h0 : I [] w) (Ax : α → Act → World → Prop) (hAx : ∀ x a', OwnFrom w.heap.size (fun (_ : Unit) W => Ax x a' W))
    (hassign : ∀ (l : Nat) (pre : List α) (x : α) (W : World) (K : Act → World → Prop), I pre W → G x W →
      (∀ a' W', KeepsFrom w.heap.size W W' → Kp W W' → I pre W' → G x W' → Ax x a' W' → K a' W') →
      assign.wpIn (F.inRound l) (n - 1 - 1) P (Exit.then K (fun _ _ _ => False)) { tmps := (ps.zip (encs x)).foldl (fun t (p, v) => t.setIfInBounds p v) a.tmps, defers := [] } W)
    (hbody : ∀ (l : Nat) (pre : List α) (x : α) (a' : Act) (W : World), w.heap.size ≤ l → I pre W → G x W → Ax x a' W → pre.length < N → body.wpIn (F.inRound l) (n - 1 - 1) P (leftM w.heap.size Kp I Ix (pre ++ [x]) W) a' W)
    (hdone : ∀ (D : Nat) (xs : List α) (W : World), w.heap.size ≤ D → S xs W → I xs W → W.heap[D]? = some (.deferred (some [])) → Q .normal { a with defers := { target := .collected D, args := #[] } :: a.defers } W)
    (hstop : ∀ (D : Nat) (c : Code) (pre : List α) (W : World), w.heap.size ≤ D → Sp pre W → Ix c pre W → W.heap[D]? = some (.deferred (some [])) → c.wpIn F n P Q { a with defers := { target := .collected D, args := #[] } :: a.defers } W) :
    (Code.rangeFunc g ps assign body).wpIn F n P Q a w := by
  refine wpIn_rangeFunc fun fn hfn => ?_
  rw [hro]
  -- the two blocks of the loop: D for deferred calls, L the record
  obtain ⟨D, hD⟩ : ∃ D, D = w.heap.size := ⟨_, rfl⟩
  obtain ⟨L, hL⟩ : ∃ L, L = w.heap.size + 1 := ⟨_, rfl⟩
  have hDL : D ≠ L := by omega
  let st : LoopState → Option Code → Obj := fun s j => .loop { state := s, pending := j, fn, tmps := a.tmps, params := ps, assign, body, defers := D }
  let dv : Obj := .deferred (some [])
  let W1 : World := (w.alloc dv).alloc (st .ready none)
  have e1 : W1.heap[L]? = some (st .ready none) := by
    have h := World.alloc_heap_new (w.alloc dv) (st .ready none)
    rw [World.size_alloc, ← hL] at h
    exact h
  have e2 : W1.heap[D]? = some dv := by rw [hD]; exact (Below.heap_alloc _ _ _ (by simp)).trans (World.alloc_heap_new w dv)
  have eB : Below w.heap.size w W1 := ((Below.refl _ w).alloc (Nat.le_refl _) _).alloc (by simp) _
  have eI : I [] W1 := hI.alloc _ (hI.alloc _ h0)
  have eS : W1.heap.size = w.heap.size + 2 := by show ((w.alloc dv).alloc (st .ready none)).heap.size = _; simp
  have hrun := run_enterLoop_outer (P := P) (w := w) fn a.tmps ps assign body
  rw [← hD, show D + 1 = L by omega] at hrun
  refine ⟨L, [{ target := .collected D, args := #[] }], W1, { target := .fn (.func gf) lb, args := #[.func (.yield L) #[] #[]] }, W1, gf, #[.func (.yield L) #[] #[]] ++ lb, W1, hrun, ?_, ?_, ?_, fun _ => h1, ?_⟩
  · simp only [resolve, hg]
    simp [go_sem]
  · intro f' h'
    simp [Target.leads] at h'
    subst h'
    exact hFg
  · simp [invoke, go_sem, eg]
  -- what the iterator may turn is none of the two
  have hfar : ∀ {A : World} {row : Option Nat}, (∀ r, row = some r → W1.heap.size ≤ r ∧ ∃ o : Obj, A.heap[r]? = some o ∧ o.isWalk = true) → ∀ r, row = some r → w.heap.size ≤ r ∧ ∃ o : Obj, A.heap[r]? = some o ∧ o.isCells = false := fun h r e => by
    obtain ⟨h2, o, h3, h4⟩ := h r e
    exact ⟨by omega, o, h3, Obj.not_cells_of_walk h4⟩
  have hcall := hseq L
    (fun pre W => I pre W ∧ W.heap[L]? = some (st .ready none) ∧ W.heap[D]? = some dv)
    (fun pre W => ∃ c, Ix c pre W ∧ W.heap[L]? = some (st .done (some c)) ∧ W.heap[D]? = some dv)
    W1 (hb0.trans (eB.mono hb0.size))
    (fun s A B row h hg' hr => ⟨hI s A B row h.1 hg' (hfar hr), (grownBy_keeps hg' (fun r e => (hr r e).2) h.2.1 rfl).trans h.2.1, (grownBy_keeps hg' (fun r e => (hr r e).2) h.2.2 rfl).trans h.2.2⟩)
    (fun s A B row h hg' hr => by
      obtain ⟨c, hc, h2, h3⟩ := h
      exact ⟨c, hIx c s A B row hc hg' (hfar hr), (grownBy_keeps hg' (fun r e => (hr r e).2) h2 rfl).trans h2, (grownBy_keeps hg' (fun r e => (hr r e).2) h3 rfl).trans h3⟩)
    ?round ⟨eI, e1, e2⟩
  case round =>
    rintro pre x W ⟨hi, hl, hk⟩ hgx hlen
    have hlt : L < W.heap.size := (Array.getElem?_eq_some_iff.1 hl).1
    refine ⟨fn, _, assign, body, run_yield (P := P) (args := encs x) hl (hps x), roundIn_of_wpIn hfn (hassign L pre x W _ hi hgx ?_)⟩
    intro a' V hVk hVp hVi hVg hVa
    have vl : V.heap[L]? = some (st .ready none) := hVk.same _ _ (by omega) hl rfl
    have vk : V.heap[D]? = some dv := hVk.same _ _ (by omega) hk rfl
    have vlt : L < V.heap.size := (Array.getElem?_eq_some_iff.1 vl).1
    obtain ⟨U, hU⟩ : ∃ U, U = V.putObj L (st .busy none) := ⟨_, rfl⟩
    have ul : U.heap[L]? = some (st .busy none) := by rw [hU]; exact World.putObj_heap_same vlt
    have uk : U.heap[D]? = some dv := by rw [hU]; exact (World.putObj_heap_other hDL).trans vk
    have up : Kp V U := by rw [hU]; exact hKb _ _ _ _ (by omega) vl rfl rfl
    refine ⟨U, by rw [hU]; exact run_beginRound vl rfl, ?_⟩
    have ui : I pre U := by rw [hU]; exact hI.putObj _ hVi (by omega) vl rfl
    have ug : G x U := by rw [hU]; exact hG.putObj _ hVg (by omega) vl rfl
    have ua : Ax x a' U := by rw [hU]; exact (hAx x a').putObj (s := ()) _ hVa (by omega) vl rfl
    -- what endRound makes of the world that the body leaves
    have fin : ∀ (j : Option Code) (Z : World), KeepsFrom w.heap.size U Z → ∃ Z', (Instr.endRound L j).run P Z = .ok (.bool j.isNone) Z' ∧ Z' = Z.putObj L (st (if j.isNone then .ready else .done) j) ∧
        Z.heap[L]? = some (st .busy none) ∧ Z'.heap[L]? = some (st (if j.isNone then .ready else .done) j) ∧ Z'.heap[D]? = some dv := fun j Z hZ => by
      have zl := hZ.same _ _ (by omega) ul rfl
      have zk := hZ.same _ _ (by omega) uk rfl
      exact ⟨_, run_endRound (P := P) j zl, rfl, zl, World.putObj_heap_same (Array.getElem?_eq_some_iff.1 zl).1, (World.putObj_heap_other hDL).trans zk⟩
    have leave : ∀ (c : Code) (Z : World), KeepsFrom w.heap.size U Z → Kp U Z → Ix c (pre ++ [x]) Z → ∃ v Z', (Instr.endRound L (some c)).run P Z = .ok v Z' ∧
        (((.returned v : Ending) = .returned (.bool true) ∧ I (pre ++ [x]) Z' ∧ Z'.heap[L]? = some (st .ready none) ∧ Z'.heap[D]? = some dv) ∨ ((.returned v : Ending) = .returned (.bool false) ∧ ∃ c, Ix c (pre ++ [x]) Z' ∧ Z'.heap[L]? = some (st .done (some c)) ∧ Z'.heap[D]? = some dv)) ∧ Kp W Z' := fun c Z hZ hp hx => by
      obtain ⟨Z', hr, rfl, zl, yl, yk⟩ := fin (some c) Z hZ
      exact ⟨_, _, hr, .inr ⟨rfl, c, (hIx c).putObj _ hx (by omega) zl rfl, yl, yk⟩, hKt hVp (hKt up (hKt hp (hKb _ _ _ _ (by omega) zl rfl rfl)))⟩
    refine wpIn_mono (hbody L pre x a' U (by omega) ui ug ua hlen) ?_
    rintro e b Z hp
    cases e with
    | normal =>
      obtain ⟨hZ, hp, hz⟩ := hp
      obtain ⟨Z', hr, rfl, zl, yl, yk⟩ := fin none Z hZ
      exact ⟨_, _, hr, .inl ⟨rfl, hI.putObj _ hz (by omega) zl rfl, yl, yk⟩, hKt hVp (hKt up (hKt hp (hKb _ _ _ _ (by omega) zl rfl rfl)))⟩
    | ret => exact leave _ Z hp.1 hp.2.1 hp.2.2
    | exit id => exact leave _ Z hp.1 hp.2.1 hp.2.2
    | goto t => exact leave _ Z hp.1 hp.2.1 hp.2.2
    | panic ch => exact hp.elim
    | outgrown => exact hp.elim
  refine hcall.mono ?_
  rintro e Z ⟨⟨v, rfl⟩, (⟨xs, hs, hi, zl, zk⟩ | ⟨pre, hs, c, hc, zl, zk⟩)⟩
  · exact ⟨none, _, run_endLoop (P := P) zl (by simp), hdone D xs _ (by omega) (hS.putObj _ hs (by omega) zl rfl) (hI.putObj _ hi (by omega) zl rfl) ((World.putObj_heap_other hDL).trans zk)⟩
  · exact ⟨some c, _, run_endLoop (P := P) zl (by simp), hstop D c pre _ (by omega) (hSp.putObj _ hs (by omega) zl rfl) ((hIx c).putObj _ hc (by omega) zl rfl) ((World.putObj_heap_other hDL).trans zk)⟩

end Go.Proofs.YtepcaaejadeklaaDoor
