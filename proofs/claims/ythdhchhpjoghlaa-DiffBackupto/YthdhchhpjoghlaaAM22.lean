/- DfvH RangeMem RngSeq RngHeld -/
import Derived.Test.YthdhchhpjoghlaaAM0
import Derived.Test.YthdhchhpjoghlaaAM19
import Derived.Test.YthdhchhpjoghlaaAM21
import Derived.Deep.DeepAppendRoom
import Derived.Laws.AppendOwn
import Derived.RangeFuncNested
import Derived.RangeFuncBound
import Derived.RangeFuncCalls
import Derived.RangeFuncLeaves
import Derived.Test.YthdhchhpjoghlaaAM2
import Derived.OrdersIn
import Derived.OrdersHeld
set_option linter.unusedSimpArgs false
set_option linter.unusedVariables false
namespace Go.Proofs.Ythdhchhpjoghlaa
open Go.RowKit
attribute [local go_sem] Oper.semAt_some
theorem own_pfx {e : TypeId} {k : Nat} {w : World} {base g n c : Nat} {xs ys : List Value} (h : OwnK e k w base (.slice (some ⟨g, 0, none⟩) (n + 1) c) (n + 1) (xs ++ ys)) (hx : xs.length = n * k) : OwnK e k w base (.slice (some ⟨g, 0, none⟩) n c) n xs := by
 rcases h.2 with ⟨h, _⟩ | ⟨g', cap, cur, e1, hb, hg, hn, hm, hs, ht⟩
 ·cases h
 ·injection e1 with e2 e3 e4
  injection e2 with e2
  injection e2 with e2
  subst e2 e4
  refine ⟨hx, .inr ⟨g, c, cur, rfl, hb, hg, by omega, hm, hs, ?_⟩⟩
  have h2 := congrArg (List.take (n * k)) ht
  rw [List.take_take, Nat.min_eq_left (Nat.mul_le_mul_right k (Nat.le_succ n)), List.take_append_of_le_length (by omega), ← hx, List.take_length] at h2
  rw [← hx]
  exact h2
def WayP (B : Nat) (W : World) (v : Value) (l : List Stp) (s : Stp) (v' : Value) (w' : World) : Prop := OwnS B w' v' (l ++ [s]) ∧
 ((∃ g n c, v = .slice (some ⟨g, 0, none⟩) n c ∧ v' = .slice (some ⟨g, 0, none⟩) (n + 1) c ∧ W.grownBy w' (some g)) ∨ ((∃ k, v'.ownBlock = some k ∧ W.heap.size ≤ k) ∧ Below W.heap.size W w'))
theorem WayP.less {B : Nat} {W W1 w' : World} {v v' : Value} {l : List Stp} {s : Stp} (h : WayP B W1 v l s v' w') (hb : Below W.heap.size W W1) : WayP B W v l s v' w' := by
 obtain ⟨h1, h2⟩ := h
 refine ⟨h1, ?_⟩
 rcases h2 with ⟨g, n, c, e1, e2, h3⟩ | ⟨⟨k, e, hk⟩, h3⟩
 ·exact .inl ⟨g, n, c, e1, e2, h3.os.trans hb.os, h3.tape.trans hb.tape, h3.output.trans hb.output, Nat.le_trans hb.size h3.size, fun k hk hne => (h3.block k (Nat.lt_of_lt_of_le hk hb.size) hne).trans (hb.block k hk)⟩
 ·exact .inr ⟨⟨k, e, Nat.le_trans hb.size hk⟩, hb.trans (h3.mono hb.size)⟩
theorem WayP.grown {B : Nat} {W w' : World} {v v' : Value} {l : List Stp} {s : Stp} (h : WayP B W v l s v' w') : W.grownBy w' v.ownBlock := by
 rcases h.2 with ⟨g, n, c, rfl, e2, h3⟩ | ⟨_, h3⟩
 ·exact h3
 ·exact ⟨h3.os, h3.tape, h3.output, h3.size, fun k hk _ => h3.block k hk⟩
theorem WayP.shape {B : Nat} {W w' : World} {v v' : Value} {l : List Stp} {s : Stp} (h : WayP B W v l s v' w') : ∃ A c, v' = .slice A (l.length + 1) c := by
 have h2 := h.1.shape
 simpa using h2
theorem WayP.back {B : Nat} {W w' w2 : World} {v v' : Value} {l : List Stp} {s : Stp} (h : WayP B W v l s v' w') (h0 : OwnS B W v l) (h1 : OwnS B w2 v' (l ++ [s])) (hk : ∀ g, v.ownBlock = some g → v'.ownBlock ≠ some g → w2.heap[g]? = w'.heap[g]?) : OwnS B w2 v l := by
 rcases h.2 with ⟨g, n, c, rfl, rfl, h3⟩ | ⟨⟨k, e, hk2⟩, h3⟩
 ·have hn : n = l.length := by obtain ⟨A, c', e⟩ := h0.shape; injection e
  subst hn
  unfold OwnS at h1 ⊢
  rw [stC_app, show (l ++ [s]).length = l.length + 1 by simp] at h1
  exact own_pfx h1 (stC_len l)
 ·refine ⟨h0.1, ?_⟩
  rcases h0.2 with h4 | ⟨g, cap, cur, rfl, hb, hg, rest⟩
  ·exact .inl h4
  ·have hlt : g < W.heap.size := (Array.getElem?_eq_some_iff.1 hg).1
   exact .inr ⟨g, cap, cur, rfl, hb, (hk g rfl (fun e2 => by rw [e] at e2; injection e2 with e2; omega)).trans ((h3.block g hlt).trans hg), rest⟩
theorem run_step (w : World) (base : Nat) (v : Value) (l : List Stp) (s : Stp) (g : Nat) (hown : OwnS base w v l) (hblk : Blk w g 39 #[.string (txt s.1), .string (txt s.2)]) (hl : l.length ≤ 1000000) (hbase : base ≤ w.heap.size) :
  ∃ v' w', (Builtin.append_ #[33, 33] 33 #[v, .slice (some ⟨g, 0, none⟩) 1 1]).run Try.prog w = .ok v' w' ∧ WayP base w v l s v' w' := by
 obtain ⟨i, hi, hz0, hz1, hz2⟩ := info_parts Try.cellsSt
 have hnews : ∀ j u, (stC [s])[j]? = some u → w.cell? ((⟨g, 0, none⟩ : Addr).add j) = some u := fun j u hj => by
  have e1 : (⟨g, 0, none⟩ : Addr).add j = ⟨g, j, none⟩ := by unfold Addr.add; split <;> simp_all
  rw [e1, hblk.cell]
  simpa [stC] using hj
 obtain ⟨v', w', hr, k1, k2, -, k3⟩ := run_append_own_at (P := Try.prog) w base 33 33 39 i (.agg #[.string ⟨#[]⟩, .string ⟨#[]⟩]) 2 32 Try.underlying33 hi hz0 hz1 hz2 szeroN (by omega) v l.length (stC l) hown ⟨g, 0, none⟩ 1 1 (stC [s]) rfl hnews (stC_one [s]) (by unfold maxLen; omega) (by omega) hbase
 have k1' : OwnS base w' v' (l ++ [s]) := by
  unfold OwnS
  rw [stC_app, show (l ++ [s]).length = l.length + 1 by simp]
  exact k1
 refine ⟨v', w', hr, k1', ?_⟩
 rcases hown.2 with ⟨rfl, h0⟩ | ⟨b, cap, cur, rfl, hb, hg, hn, hm, hs, ht⟩
 ·right
  obtain ⟨b', cap', cur', rfl, hb', hg', _⟩ : ∃ g' cap' cur', v' = .slice (some ⟨g', 0, none⟩) (l.length + 1) cap' ∧ base ≤ g' ∧ w'.heap[g']? = some (.cells cur' 39 (0, 0)) ∧ True := by
   rcases k1.2 with ⟨_, h⟩ | ⟨g', cap', cur', e, hb', hg', _⟩
   ·omega
   ·exact ⟨g', cap', cur', e, hb', hg', trivial⟩
  refine ⟨⟨b', rfl, ?_⟩, ⟨k2.os, k2.tape, k2.output, k2.size, fun k hk => k2.block k hk (by simp [Value.ownBlock])⟩⟩
  rcases k3 with h | h
  ·cases h
  ·injection h with h; exact Nat.le_of_eq h.symm
 ·by_cases hroom : l.length + 1 ≤ cap
  ·obtain ⟨w2, hr2, j1, j2⟩ := run_append_own_spare (P := Try.prog) w base 33 33 39 i 2 Try.underlying33 hi hz1 b l.length cap (stC l) hown ⟨g, 0, none⟩ 1 1 (stC [s]) rfl hnews (stC_one [s]) hroom
   rw [hr] at hr2
   injection hr2 with e1 e2
   subst e1 e2
   exact .inl ⟨b, _, cap, rfl, rfl, j2⟩
  ·right
   have holds : ∀ j u, (stC l)[j]? = some u → w.cell? ((⟨b, 0, none⟩ : Addr).add j) = some u := World.ownsRow.cells hown (g := b) rfl
   have hr2 := run_append_grow (P := Try.prog) w 33 33 39 i (.agg #[.string ⟨#[]⟩, .string ⟨#[]⟩]) Try.underlying33 hi hz0 ⟨b, 0, none⟩ l.length cap (stC l) (by rw [hz1]; exact stC_len l) holds ⟨g, 0, none⟩ 1 1 (stC [s]) (by rw [hz1]; rfl) hnews (by omega) (by omega) (growslice_fits (by omega) (by rw [hz2]; omega))
   rw [hr] at hr2
   injection hr2 with e1 e2
   subst e1 e2
   exact ⟨⟨w.heap.size, rfl, Nat.le_refl _⟩, ((Below.refl _ _).drew).alloc (Nat.le_refl _) _⟩
set_option maxRecDepth 100000 in
set_option maxHeartbeats 4000000 in
theorem wayto_any (B : Nat) (l : List Stp) (v : Value) (a : NdD) (u : Value) (W : World) (hv : OwnS B W v l) (hl : l.length ≤ 1000000) (hB : B ≤ W.heap.size) :
  Calls Try.prog 32 #[v, .agg #[.string (txt a.name), .string (txt a.key), .int .i64 a.kind, .int .u64 (a.num : Int), .string (txt a.text), u]] W fun r w' => ∃ v', r = .returned v' ∧ WayP B W v l (stp a) v' w' := by
 obtain ⟨A, c, rfl⟩ := hv.shape
 have hb : Below W.heap.size W ((W.alloc (.cells #[.string (txt a.name), .string (txt a.key), .int .i64 a.kind, .int .u64 (a.num : Int), .string (txt a.text), u] 27)).alloc (.cells #[.string (txt a.name), .string (txt a.key)] 39)) := ((Below.refl _ _).alloc (Nat.le_refl _) _).alloc (by simp) _
 have hblk : Blk ((W.alloc (.cells #[.string (txt a.name), .string (txt a.key), .int .i64 a.kind, .int .u64 (a.num : Int), .string (txt a.text), u] 27)).alloc (.cells #[.string (txt a.name), .string (txt a.key)] 39)) (W.heap.size + 1) 39 #[.string (txt a.name), .string (txt a.key)] := Blk.newA (by simp) _ _
 have HRUN := Lib.hid (run_step ((W.alloc (.cells #[.string (txt a.name), .string (txt a.key), .int .i64 a.kind, .int .u64 (a.num : Int), .string (txt a.text), u] 27)).alloc (.cells #[.string (txt a.name), .string (txt a.key)] 39)) B (.slice A l.length c) l (stp a) (W.heap.size + 1) (hv.below hb) hblk hl (Nat.le_trans hB hb.size))
 have HB := Lib.hid hb
 have q0 : (W.alloc (.cells #[.string (txt a.name), .string (txt a.key), .int .i64 a.kind, .int .u64 (a.num : Int), .string (txt a.text), u] 27)).cell? ⟨W.heap.size, 0, none⟩ = some (.string (txt a.name)) := ((Blk.new W 27 #[.string (txt a.name), .string (txt a.key), .int .i64 a.kind, .int .u64 (a.num : Int), .string (txt a.text), u]).cell 0).trans rfl
 have q1 : (W.alloc (.cells #[.string (txt a.name), .string (txt a.key), .int .i64 a.kind, .int .u64 (a.num : Int), .string (txt a.text), u] 27)).cell? ⟨W.heap.size, 1, none⟩ = some (.string (txt a.key)) := ((Blk.new W 27 #[.string (txt a.name), .string (txt a.key), .int .i64 a.kind, .int .u64 (a.num : Int), .string (txt a.text), u]).cell 1).trans rfl
 clear hv hl hB hb hblk
 obtain ⟨v', w', hr, hp⟩ := HRUN.out
 have HR := Lib.hid hr
 have HP := Lib.hid (hp.less HB.out)
 clear hr hp HRUN
 go_enter Try.func32, Try.ntmps32
 go_wp2_with (at_builtin; refine Lib.wpList_append_run _ rfl (.tmp 5) (.tmp 11) 33 33 rfl _ _ rfl rfl _ _ HR.out ?_)
 go_wp2
 go_ret
 exact ⟨_, rfl, HP.out⟩
def ahdX : NdF → NdF → Bool
 | .nil, _ => false
 | .cons _ _ _, .nil => true
 | .cons a _ _, .cons b _ _ => lessX a b
end Go.Proofs.Ythdhchhpjoghlaa
namespace Go.Proofs.Ythdhchhpjoghlaa
open Go.RowKit
variable {F : Fence} {n : Nat} {P : Program}
def SeqM {α : Type} (F : Fence) (n : Nat) (P : Program) (g : Nat) (lb : Array Value) (encs : α → Array Value) (G : α → World → Prop) (Kp : World → World → Prop) (S Sp : List α → World → Prop) (N : Nat) (w : World) : Prop :=
 ∀ (l : Nat) (J Jx : List α → World → Prop) (W : World), Below w.heap.size w W → AbidesFrom W.heap.size J → AbidesFrom W.heap.size Jx →
  (∀ pre x W1, J pre W1 → G x W1 → pre.length < N → YieldAt F (n - 1) P l (encs x) W1 fun e W' =>
   ((e = .returned (.bool true) ∧ J (pre ++ [x]) W') ∨ (e = .returned (.bool false) ∧ Jx (pre ++ [x]) W')) ∧ Kp W1 W') →
  J [] W →
  CallsIn F n P g (#[.func (.yield l) #[] #[]] ++ lb) W fun e W' => (∃ v, e = .returned v) ∧ ((∃ xs, S xs W' ∧ J xs W') ∨ (∃ pre, Sp pre W' ∧ Jx pre W'))
def leftM {α : Type} (B : Nat) (Kp : World → World → Prop) (I : List α → World → Prop) (Ix : Code → List α → World → Prop) (xs : List α) (W : World) : Exit → Act → World → Prop
 | .normal, _, W' => KeepsFrom B W W' ∧ Kp W W' ∧ I xs W'
 | .ret, _, W' => KeepsFrom B W W' ∧ Kp W W' ∧ Ix .ret xs W'
 | .exit id, _, W' => KeepsFrom B W W' ∧ Kp W W' ∧ Ix (.exit id) xs W'
 | .goto t, _, W' => KeepsFrom B W W' ∧ Kp W W' ∧ Ix (.goto t) xs W'
 | .panic _, _, _ => False
 | .outgrown, _, _ => False
theorem wpIn_range_mem {α : Type} {g : Operand} {ps : Array Tmp} {assign body : Code} {Q : Exit → Act → World → Prop} {a : Act} {w : World}
  (hro : F.round = none) (h1 : 1 ≤ n) {gf : Nat} {lb : Array Value} (hg : a.eval g = .func (.func gf) #[] lb) (hFg : F.fn gf) (eg : ∀ args w, (callFunc gf args).run P w = .ok (.enter gf args) w)
  {encs : α → Array Value} {G : α → World → Prop} {Kp : World → World → Prop} {S Sp : List α → World → Prop} {N : Nat} {w0 : World} (hseq : SeqM F (n - 1) P gf lb encs G Kp S Sp N w0)
  (hKt : ∀ {A B C : World}, Kp A B → Kp B C → Kp A C) (hKb : ∀ (W : World) (l : Nat) (o o' : Obj), w.heap.size ≤ l → W.heap[l]? = some o → o.isCells = false → o.isWalk = false → Kp W (W.putObj l o'))
  (hb0 : Below w0.heap.size w0 w) (hps : ∀ x, (encs x).size = ps.size)
  (I : List α → World → Prop) (Ix : Code → List α → World → Prop) (hI : OwnFrom w.heap.size I) (hIx : ∀ c, OwnFrom w.heap.size (Ix c)) (hG : OwnFrom w.heap.size G) (hS : OwnFrom w.heap.size S) (hSp : OwnFrom w.heap.size Sp)
  (h0 : I [] w) (Ax : α → Act → World → Prop) (hAx : ∀ x a', OwnFrom w.heap.size (fun (_ : Unit) W => Ax x a' W))
  (hassign : ∀ (l : Nat) (pre : List α) (x : α) (W : World) (K : Act → World → Prop), I pre W → G x W →
   (∀ a' W', KeepsFrom w.heap.size W W' → Kp W W' → I pre W' → G x W' → Ax x a' W' → K a' W') →
   assign.wpIn (F.inRound l) (n - 1 - 1) P (Exit.then K (fun _ _ _ => False)) { tmps := (ps.zip (encs x)).foldl (fun t (p, v) => t.setIfInBounds p v) a.tmps, defers := [] } W)
  (hbody : ∀ (l : Nat) (pre : List α) (x : α) (a' : Act) (W : World), w.heap.size ≤ l → I pre W → G x W → Ax x a' W → pre.length < N → body.wpIn (F.inRound l) (n - 1 - 1) P (leftM w.heap.size Kp I Ix (pre ++ [x]) W) a' W)
  (hdone : ∀ (D : Nat) (xs : List α) (W : World), w.heap.size ≤ D → S xs W → I xs W → W.heap[D]? = some (.deferred (some [])) → Q .normal { a with defers := { target := .collected D, args := #[] } :: a.defers } W)
  (hstop : ∀ (D : Nat) (c : Code) (pre : List α) (W : World), w.heap.size ≤ D → Sp pre W → Ix c pre W → W.heap[D]? = some (.deferred (some [])) → c.wpIn F n P Q { a with defers := { target := .collected D, args := #[] } :: a.defers } W) :
  (Code.rangeFunc g ps assign body).wpIn F n P Q a w := by
 refine wpIn_rangeFunc fun fn hfn => ?_
 rw [hro]
 -- the two blocks of the loop: D for deferred calls, L the record
 obtain ⟨D, hD⟩ : ∃ D, D = w.heap.size := ⟨_, rfl⟩
 obtain ⟨L, hL⟩ : ∃ L, L = w.heap.size + 1 := ⟨_, rfl⟩
 have hDL : D ≠ L := by omega
 let st : LoopState → Option Code → Obj := fun s j => .loop { state := s, pending := j, fn, tmps := a.tmps, params := ps, assign, body, defers := D }
 let dv : Obj := .deferred (some [])
 let W1 : World := (w.alloc dv).alloc (st .ready none)
 have e1 : W1.heap[L]? = some (st .ready none) := by
  have h := World.alloc_heap_new (w.alloc dv) (st .ready none)
  rw [World.size_alloc, ← hL] at h
  exact h
 have e2 : W1.heap[D]? = some dv := by rw [hD]; exact (Below.heap_alloc _ _ _ (by simp)).trans (World.alloc_heap_new w dv)
 have eB : Below w.heap.size w W1 := ((Below.refl _ w).alloc (Nat.le_refl _) _).alloc (by simp) _
 have eI : I [] W1 := hI.alloc _ (hI.alloc _ h0)
 have eS : W1.heap.size = w.heap.size + 2 := by show ((w.alloc dv).alloc (st .ready none)).heap.size = _; simp
 have hrun := run_enterLoop_outer (P := P) (w := w) fn a.tmps ps assign body
 rw [← hD, show D + 1 = L by omega] at hrun
 refine ⟨L, [{ target := .collected D, args := #[] }], W1, { target := .fn (.func gf) lb, args := #[.func (.yield L) #[] #[]] }, W1, gf, #[.func (.yield L) #[] #[]] ++ lb, W1, hrun, ?_, ?_, ?_, fun _ => h1, ?_⟩
 ·simp only [resolve, hg]
  simp [go_sem]
 ·intro f' h'
  simp [Target.leads] at h'
  subst h'
  exact hFg
 ·simp [invoke, go_sem, eg]
 -- what the iterator may turn is none of the two
 have hfar : ∀ {A : World} {row : Option Nat}, (∀ r, row = some r → W1.heap.size ≤ r ∧ ∃ o : Obj, A.heap[r]? = some o ∧ o.isWalk = true) → ∀ r, row = some r → w.heap.size ≤ r ∧ ∃ o : Obj, A.heap[r]? = some o ∧ o.isCells = false := fun h r e => by
  obtain ⟨h2, o, h3, h4⟩ := h r e
  exact ⟨by omega, o, h3, Obj.not_cells_of_walk h4⟩
 have hcall := hseq L
  (fun pre W => I pre W ∧ W.heap[L]? = some (st .ready none) ∧ W.heap[D]? = some dv)
  (fun pre W => ∃ c, Ix c pre W ∧ W.heap[L]? = some (st .done (some c)) ∧ W.heap[D]? = some dv)
  W1 (hb0.trans (eB.mono hb0.size))
  (fun s A B row h hg' hr => ⟨hI s A B row h.1 hg' (hfar hr), (grownBy_keeps hg' (fun r e => (hr r e).2) h.2.1 rfl).trans h.2.1, (grownBy_keeps hg' (fun r e => (hr r e).2) h.2.2 rfl).trans h.2.2⟩)
  (fun s A B row h hg' hr => by
   obtain ⟨c, hc, h2, h3⟩ := h
   exact ⟨c, hIx c s A B row hc hg' (hfar hr), (grownBy_keeps hg' (fun r e => (hr r e).2) h2 rfl).trans h2, (grownBy_keeps hg' (fun r e => (hr r e).2) h3 rfl).trans h3⟩)
  ?round ⟨eI, e1, e2⟩
 case round =>
  rintro pre x W ⟨hi, hl, hk⟩ hgx hlen
  have hlt : L < W.heap.size := (Array.getElem?_eq_some_iff.1 hl).1
  refine ⟨fn, _, assign, body, run_yield (P := P) (args := encs x) hl (hps x), roundIn_of_wpIn hfn (hassign L pre x W _ hi hgx ?_)⟩
  intro a' V hVk hVp hVi hVg hVa
  have vl : V.heap[L]? = some (st .ready none) := hVk.same _ _ (by omega) hl rfl
  have vk : V.heap[D]? = some dv := hVk.same _ _ (by omega) hk rfl
  have vlt : L < V.heap.size := (Array.getElem?_eq_some_iff.1 vl).1
  obtain ⟨U, hU⟩ : ∃ U, U = V.putObj L (st .busy none) := ⟨_, rfl⟩
  have ul : U.heap[L]? = some (st .busy none) := by rw [hU]; exact World.putObj_heap_same vlt
  have uk : U.heap[D]? = some dv := by rw [hU]; exact (World.putObj_heap_other hDL).trans vk
  have up : Kp V U := by rw [hU]; exact hKb _ _ _ _ (by omega) vl rfl rfl
  refine ⟨U, by rw [hU]; exact run_beginRound vl rfl, ?_⟩
  have ui : I pre U := by rw [hU]; exact hI.putObj _ hVi (by omega) vl rfl
  have ug : G x U := by rw [hU]; exact hG.putObj _ hVg (by omega) vl rfl
  have ua : Ax x a' U := by rw [hU]; exact (hAx x a').putObj (s := ()) _ hVa (by omega) vl rfl
  -- what endRound makes of the world that the body leaves
  have fin : ∀ (j : Option Code) (Z : World), KeepsFrom w.heap.size U Z → ∃ Z', (Instr.endRound L j).run P Z = .ok (.bool j.isNone) Z' ∧ Z' = Z.putObj L (st (if j.isNone then .ready else .done) j) ∧
    Z.heap[L]? = some (st .busy none) ∧ Z'.heap[L]? = some (st (if j.isNone then .ready else .done) j) ∧ Z'.heap[D]? = some dv := fun j Z hZ => by
   have zl := hZ.same _ _ (by omega) ul rfl
   have zk := hZ.same _ _ (by omega) uk rfl
   exact ⟨_, run_endRound (P := P) j zl, rfl, zl, World.putObj_heap_same (Array.getElem?_eq_some_iff.1 zl).1, (World.putObj_heap_other hDL).trans zk⟩
  have leave : ∀ (c : Code) (Z : World), KeepsFrom w.heap.size U Z → Kp U Z → Ix c (pre ++ [x]) Z → ∃ v Z', (Instr.endRound L (some c)).run P Z = .ok v Z' ∧
    (((.returned v : Ending) = .returned (.bool true) ∧ I (pre ++ [x]) Z' ∧ Z'.heap[L]? = some (st .ready none) ∧ Z'.heap[D]? = some dv) ∨ ((.returned v : Ending) = .returned (.bool false) ∧ ∃ c, Ix c (pre ++ [x]) Z' ∧ Z'.heap[L]? = some (st .done (some c)) ∧ Z'.heap[D]? = some dv)) ∧ Kp W Z' := fun c Z hZ hp hx => by
   obtain ⟨Z', hr, rfl, zl, yl, yk⟩ := fin (some c) Z hZ
   exact ⟨_, _, hr, .inr ⟨rfl, c, (hIx c).putObj _ hx (by omega) zl rfl, yl, yk⟩, hKt hVp (hKt up (hKt hp (hKb _ _ _ _ (by omega) zl rfl rfl)))⟩
  refine wpIn_mono (hbody L pre x a' U (by omega) ui ug ua hlen) ?_
  rintro e b Z hp
  cases e with
  | normal =>
   obtain ⟨hZ, hp, hz⟩ := hp
   obtain ⟨Z', hr, rfl, zl, yl, yk⟩ := fin none Z hZ
   exact ⟨_, _, hr, .inl ⟨rfl, hI.putObj _ hz (by omega) zl rfl, yl, yk⟩, hKt hVp (hKt up (hKt hp (hKb _ _ _ _ (by omega) zl rfl rfl)))⟩
  | ret => exact leave _ Z hp.1 hp.2.1 hp.2.2
  | exit id => exact leave _ Z hp.1 hp.2.1 hp.2.2
  | goto t => exact leave _ Z hp.1 hp.2.1 hp.2.2
  | panic ch => exact hp.elim
  | outgrown => exact hp.elim
 refine hcall.mono ?_
 rintro e Z ⟨⟨v, rfl⟩, (⟨xs, hs, hi, zl, zk⟩ | ⟨pre, hs, c, hc, zl, zk⟩)⟩
 ·exact ⟨none, _, run_endLoop (P := P) zl (by simp), hdone D xs _ (by omega) (hS.putObj _ hs (by omega) zl rfl) (hI.putObj _ hi (by omega) zl rfl) ((World.putObj_heap_other hDL).trans zk)⟩
 ·exact ⟨some c, _, run_endLoop (P := P) zl (by simp), hstop D c pre _ (by omega) (hSp.putObj _ hs (by omega) zl rfl) ((hIx c).putObj _ hc (by omega) zl rfl) ((World.putObj_heap_other hDL).trans zk)⟩
end Go.Proofs.Ythdhchhpjoghlaa
namespace Go.Proofs.Ythdhchhpjoghlaa
open Go.RowKit
structure KeepN (N : Nat → Prop) (m : Nat) (A B : World) : Prop where
 os : B.os = A.os
 tape : B.tape = A.tape
 output : B.output = A.output
 size : A.heap.size ≤ B.heap.size
 block : ∀ k, k < A.heap.size → (N k ∨ m ≤ k) → B.heap[k]? = A.heap[k]?
section
variable {N N' : Nat → Prop} {m m' : Nat} {A B C : World}
theorem KeepN.refl (N : Nat → Prop) (m : Nat) (A : World) : KeepN N m A A := ⟨rfl, rfl, rfl, Nat.le_refl _, fun _ _ _ => rfl⟩
theorem KeepN.trans (h : KeepN N m A B) (k : KeepN N m B C) : KeepN N m A C :=
 ⟨k.os.trans h.os, k.tape.trans h.tape, k.output.trans h.output, Nat.le_trans h.size k.size, fun i hi hn => (k.block i (Nat.lt_of_lt_of_le hi h.size) hn).trans (h.block i hi hn)⟩
theorem KeepN.below (h : Below A.heap.size A B) : KeepN N m A B := ⟨h.os, h.tape, h.output, h.size, fun k hk _ => h.block k hk⟩
theorem KeepN.putObj (A : World) (l : Nat) (o : Obj) (h1 : ¬ N l) (h2 : l < m) : KeepN N m A (A.putObj l o) :=
 ⟨rfl, rfl, rfl, by simp, fun k _ hk => World.putObj_heap_other (by rintro rfl; rcases hk with hk | hk; exact h1 hk; omega)⟩
theorem KeepN.mono (h : KeepN N m A B) (hN : ∀ k, k < A.heap.size → (N' k ∨ m' ≤ k) → N k ∨ m ≤ k) : KeepN N' m' A B := ⟨h.os, h.tape, h.output, h.size, fun k hk hn => h.block k hk (hN k hk hn)⟩
theorem KeepN.from (h : KeepN N m A B) (hm : m ≤ m') : KeepsFrom m' A B := ⟨h.size, fun k o hk ho _ => (h.block k (Array.getElem?_eq_some_iff.1 ho).1 (.inr (Nat.le_trans hm hk))).trans ho⟩
end
def StB (B : Nat) (J : World → Prop) : Prop := ∀ A A', J A → Below B A A' → J A'
theorem StB.mono {B B' : Nat} {J : World → Prop} (h : StB B J) (hb : B ≤ B') : StB B' J := fun A A' hj hB => h A A' hj (hB.mono hb)
theorem StB.putObj {B : Nat} {J : World → Prop} (h : StB B J) {A : World} (l : Nat) (o : Obj) (hl : B ≤ l) (hj : J A) : J (A.putObj l o) :=
 h A _ hj ⟨rfl, rfl, rfl, by simp, fun k hk => World.putObj_heap_other (by omega)⟩
theorem StB.below {w : World} {B : Nat} : StB B (fun W => Below B w W) := fun _ _ h k => h.trans k
section
variable {P : Program} {n : Nat} {g : Operand} {ps : Array Tmp} {assign body : Code} {Q : Exit → Act → World → Prop} {a : Act} {w : World} {gf : Nat} {lb : Array Value} {w0 : World}
end
end Go.Proofs.Ythdhchhpjoghlaa
namespace Go.Proofs.Ythdhchhpjoghlaa
open Go.RowKit
abbrev wideR (ro : Option Nat) : Fence := { Fence.wide with round := ro }
def calmO (o : Oper) : Bool := match o.op with
 | .select .. => false
 | .defer _ => false
 | _ => true
def calmB (ops : Array Oper) : Bool := ops.all calmO
theorem calm_select {o : Oper} (h : calmO o = true) (cs : Array SelectCase) (b : Bool) : o.op ≠ .select cs b := fun e => by simp [calmO, e] at h
theorem calm_defer {o : Oper} (h : calmO o = true) (c : Call) : o.op ≠ .defer c := fun e => by simp [calmO, e] at h
theorem calm_at {ops : Array Oper} (h : calmB ops = true) {i : Nat} {o : Oper} (hi : ops[i]? = some o) : calmO o = true :=
 Array.all_eq_true_iff_forall_mem.1 h o (Array.mem_of_getElem? hi)
section
variable {ro : Option Nat} {n : Nat} {P : Program} {ops : Array Oper} {Q : Exit → Act → World → Prop} {S : World → Prop}
theorem calls_wideR {f : FuncId} {args : Array Value} {w : World} {R : Ending → World → Prop} (h : Calls P f args w R) : CallsIn (wideR ro) n P f args w R := (callsIn_wide (n := n)).2 h
theorem rows_wideR {r : String} {args : Array Value} {w : World} {R : Value → World → Prop} (h : Rows P r args w R) : RowsIn (wideR ro) n P r args w R := fun c cs _ => by
 obtain ⟨v, w', hr, hs⟩ := h c cs
 exact ⟨v, w', hr, stepsIn_wide.2 hs⟩
theorem opIn_of {o : Oper} (hc : calmO o = true) {a : Act} {w : World} {K : Act → World → Prop} (h : o.wp P a w K Q) : o.wpIn (wideR ro) n P a w K Q := by
 refine ⟨fun f _ => trivial, ?_⟩
 rw [Oper.semAt_eq _ _ _ (calm_defer hc)]
 unfold Oper.wp at h
 generalize (execOp a.eval o).run P w = r at *
 cases r with
 | ok x w' =>
  cases x with
  | enter f args => exact ⟨fun hd => by simp [Fence.wide] at hd, calls_wideR h⟩
  | row r args => exact ⟨fun hd => by simp [Fence.wide] at hd, rows_wideR h⟩
  | value v => exact h
  | skip => exact h
  | defer d => exact h
  | round => exact h.elim
  | _ => exact h.elim
 | halt x w' => cases x <;> exact h
def HeldI (ro : Option Nat) (n : Nat) (P : Program) (ops : Array Oper) (Q : Exit → Act → World → Prop) (D : List Nat) : (World → Prop) → Nat → Array Bool → Act → World → Prop
 | _, 0, listed, a, w => Region.ready .any ops listed = [] ∧ Q .normal a w
 | S, fuel + 1, listed, a, w => (Region.ready .any ops listed = [] → Q .normal a w) ∧
   ∀ i ∈ Region.ready .any ops listed, wpOpIn (wideR ro) n P ops Q i (fun a' w' => if D.contains i = true then HeldI ro n P ops Q D (fun _ => True) fuel (listed.setIfInBounds i true) a' w' else S w' ∧ HeldI ro n P ops Q D S fuel (listed.setIfInBounds i true) a' w') a w
variable {D : List Nat}
theorem heldI_any : ∀ (S : World → Prop) (fuel : Nat) (listed : Array Bool) (a : Act) (w : World), HeldI ro n P ops Q D S fuel listed a w → wpAnyIn (wideR ro) n P .any ops Q fuel listed a w
 | _, 0, _, _, _, h => h
 | S, fuel + 1, _, _, _, h => ⟨h.1, fun i hi => wpOpIn_mono (fun a' w' h' => by
   split at h'
   ·exact heldI_any _ fuel _ a' w' h'
   ·exact heldI_any _ fuel _ a' w' h'.2) (h.2 i hi)⟩
theorem heldI_more {S' : World → Prop} (h : ∀ w, S' w → S w) : ∀ (fuel : Nat) (listed : Array Bool) (a : Act) (w : World), HeldI ro n P ops Q D S' fuel listed a w → HeldI ro n P ops Q D S fuel listed a w
 | 0, _, _, _, hw => hw
 | fuel + 1, _, _, _, hw => ⟨hw.1, fun i hi => wpOpIn_mono (fun _ _ hq => by
   split at hq
   ·rename_i hd; rw [if_pos hd]; exact hq
   ·rename_i hd; rw [if_neg hd]; exact ⟨h _ hq.1, heldI_more h fuel _ _ _ hq.2⟩) (hw.2 i hi)⟩
theorem opI_first {i : Nat} {o : Oper} {v : Value} {a : Act} (hi : ops[i]? = some o) (hc : calmO o = true) (hy : YieldsIf P ops S o v a) {K : Act → World → Prop} {w : World} (hS : S w) (h : K (a.put o.dst v) w) :
  wpOpIn (wideR ro) n P ops Q i K a w := by
 unfold wpOpIn
 simp only [hi]
 rcases hy with ⟨hw, hv⟩ | ⟨hw, rfl⟩
 ·simp only [hw, if_true]
  refine ⟨fun f _ => trivial, ?_⟩
  rw [Oper.semAt_eq _ _ _ (calm_defer hc), hv w hS]
  exact h
 ·simp only [hw, Bool.false_eq_true, if_false]
  exact ⟨fun f _ => trivial, h⟩
theorem opI_other {j : Nat} {oi oj : Oper} {v : Value} (hj : ops[j]? = some oj) (hci : calmO oi = true) (hcj : calmO oj = true) (hap : oi.apart ops oj = true)
  (hQ : ∀ c a w, Q (.panic c) (a.put oi.dst v) w → Q (.panic c) a w) {K : Act → World → Prop} {a : Act} {w : World} (hy : YieldsIf P ops S oi v a) (h : wpOpIn (wideR ro) n P ops Q j K (a.put oi.dst v) w) :
  wpOpIn (wideR ro) n P ops Q j (fun a' w' => YieldsIf P ops S oi v a' ∧ K (a'.put oi.dst v) w') a w := by
 obtain ⟨h1, h2, h3⟩ := Oper.apart_spec hap
 have keep : ∀ u, YieldsIf P ops S oi v (a.put oj.dst u) := fun u => hy.of_same (execOp_put oi (calm_select hci) a oj.dst u h3) (wanted_put oi a oj.dst u h3)
 have turn : ∀ u {w'}, K ((a.put oi.dst v).put oj.dst u) w' → YieldsIf P ops S oi v (a.put oj.dst u) ∧ K ((a.put oj.dst u).put oi.dst v) w' := fun u {w'} hk => ⟨keep u, by rw [← Act.put_comm a v u h2]; exact hk⟩
 unfold wpOpIn at *
 simp only [hj] at *
 rw [wanted_put oj a oi.dst v h1] at h
 cases hw : Region.wanted oj (yielded ops a.tmps) with
 | false =>
  simp only [hw, Bool.false_eq_true, if_false] at h ⊢
  exact ⟨fun f _ => trivial, turn _ h.2⟩
 | true =>
  simp only [hw, if_true] at h ⊢
  refine ⟨fun f _ => trivial, ?_⟩
  have h := h.2
  rw [Oper.semAt_eq _ _ _ (calm_defer hcj), execOp_put oj (calm_select hcj) a oi.dst v h1] at h
  rw [Oper.semAt_eq _ _ _ (calm_defer hcj)]
  have hdk : ∀ d, YieldsIf P ops S oi v { a with defers := d :: a.defers } := fun d => hy.of_same rfl rfl
  generalize (execOp a.eval oj).run P w = r at *
  cases r with
  | ok x w' =>
   cases x with
   | value u => exact turn u h
   | skip => exact turn _ h
   | defer d =>
    have e : ({ a with defers := d :: a.defers } : Act).put oi.dst v = { a.put oi.dst v with defers := d :: (a.put oi.dst v).defers } := (Act.put_defers a oi.dst v d).symm
    refine ⟨(hdk d).of_same (execOp_put oi (calm_select hci) _ oj.dst undef h3) (wanted_put oi _ oj.dst undef h3), ?_⟩
    rw [← Act.put_comm _ v undef h2, e]
    exact h
   | enter f args =>
    refine ⟨h.1, CallsIn.mono h.2 fun e w'' he => ?_⟩
    cases e with
    | returned u => exact turn u he
    | panicked c => exact hQ _ _ _ he
    | outgrown => exact he
   | row r args => exact ⟨h.1, RowsIn.mono h.2 fun u w'' he => turn u he⟩
   | round l f tmps assign body =>
    refine ⟨h.1, RoundIn.mono h.2 fun e w'' he => ?_⟩
    cases e with
    | returned u => exact turn u he
    | panicked c => exact hQ _ _ _ he
    | outgrown => exact he
   | _ => exact h.elim
  | halt x w' =>
   cases x with
   | panic u => exact hQ _ _ _ h
   | _ => exact h.elim
def waitB (ops : Array Oper) (D : List Nat) (listed : Array Bool) (i : Nat) (X : List Nat) : Bool :=
 X.all (fun x => !(listed.getD x true)) && X.all (fun x => x == i || ((ops[x]?).map (fun o => o.after.any (fun e => Region.binds .any e && X.contains e.on))).getD false) && D.all (fun d => X.contains d || listed.getD d true)
structure WaitX (ops : Array Oper) (D : List Nat) (listed : Array Bool) (i : Nat) (X : List Nat) : Prop where
 not : ∀ x ∈ X, listed.getD x true = false
 dep : ∀ x ∈ X, x ≠ i → ∃ o, ops[x]? = some o ∧ ∃ e ∈ o.after, Region.binds .any e = true ∧ e.on ∈ X
 all : ∀ d ∈ D, d ∈ X ∨ listed.getD d true = true
theorem WaitX.of {listed : Array Bool} {i : Nat} {X : List Nat} (h : waitB ops D listed i X = true) : WaitX ops D listed i X := by
 unfold waitB at h
 simp only [Bool.and_eq_true, List.all_eq_true] at h
 obtain ⟨⟨h1, h2⟩, h3⟩ := h
 refine ⟨fun x hx => by simpa using h1 x hx, fun x hx hne => ?_, fun d hd => by simpa using h3 d hd⟩
 have h := h2 x hx
 simp only [Bool.or_eq_true, beq_iff_eq, hne, false_or] at h
 cases ho : ops[x]? with
 | none => rw [ho] at h; cases h
 | some o =>
  rw [ho] at h
  simp only [Option.map_some, Option.getD_some, Array.any_eq_true', Bool.and_eq_true, List.contains_iff_mem] at h
  obtain ⟨e, he, hb, hm⟩ := h
  exact ⟨o, rfl, e, he, hb, hm⟩
theorem WaitX.ready {listed : Array Bool} {i j : Nat} {X : List Nat} (h : WaitX ops D listed i X) (hj : j ∈ Region.ready .any ops listed) (hne : j ≠ i) : j ∉ X := by
 intro hx
 obtain ⟨o, ho, e, he, hb, hm⟩ := h.dep j hx hne
 obtain ⟨_, o', ho', hall⟩ := mem_ready.1 hj
 rw [ho] at ho'
 injection ho' with ho'
 subst ho'
 have h1 := hall e he hb
 have h0 := h.not e.on hm
 by_cases hl : e.on < listed.size
 ·rw [Array.getD_eq_getD_getElem?, Array.getElem?_eq_getElem hl] at h0 h1
  simp only [Option.getD_some] at h0 h1
  rw [h0] at h1
  cases h1
 ·rw [Array.getD_eq_getD_getElem?, Array.getElem?_eq_none (by omega)] at h1
  cases h1
theorem WaitX.step {listed : Array Bool} {i j : Nat} {X : List Nat} (h : WaitX ops D listed i X) (hj : j ∈ Region.ready .any ops listed) (hne : j ≠ i) : WaitX ops D (listed.setIfInBounds j true) i X := by
 have hx := h.ready hj hne
 refine ⟨fun x hm => ?_, h.dep, fun d hd => ?_⟩
 ·rw [getD_set_ne true (fun e => hx (by rw [e]; exact hm))]
  exact h.not x hm
 ·rcases h.all d hd with h1 | h1
  ·exact .inl h1
  ·refine .inr ?_
   rcases Decidable.em (j = d) with e | e
   ·subst e
    have h0 := (mem_ready.1 hj).1
    rw [h1] at h0
    cases h0
   ·rw [getD_set_ne true e]; exact h1
theorem heldI_first {i : Nat} {oi : Oper} {v : Value} {X : List Nat} (hi : ops[i]? = some oi) (hc : calmB ops = true) (hQ : ∀ c a w, Q (.panic c) (a.put oi.dst v) w → Q (.panic c) a w) (hiD : D.contains i = false) :
  ∀ (fuel : Nat) (listed : Array Bool) (a : Act) (w : World), WaitX ops D listed i X →
   (∀ j oj, ops[j]? = some oj → j ≠ i → listed.getD j true = false → (∀ e ∈ oj.after, Region.binds .any e = true → e.on ≠ i) → oi.apart ops oj = true) →
   i ∈ Region.ready .any ops listed → YieldsIf P ops S oi v a → S w →
   HeldI ro n P ops Q D S fuel (listed.setIfInBounds i true) (a.put oi.dst v) w → HeldI ro n P ops Q D S (fuel + 1) listed a w := by
 intro fuel
 induction fuel with
 | zero =>
  intro listed a w _ _ hr hy hS H
  refine ⟨fun h => (by rw [h] at hr; cases hr), fun j hj => ?_⟩
  rcases Decidable.em (j = i) with e | e
  ·subst e
   refine opI_first hi (calm_at hc hi) hy hS ?_
   rw [if_neg (by rw [hiD]; decide)]
   exact ⟨hS, H⟩
  ·have h2 := ready_mono hj e
   rw [H.1] at h2
   cases h2
 | succ fuel ih =>
  intro listed a w hX hfree hr hy hS H
  refine ⟨fun h => (by rw [h] at hr; cases hr), fun j hj => ?_⟩
  rcases Decidable.em (j = i) with e | e
  ·subst e
   refine opI_first hi (calm_at hc hi) hy hS ?_
   rw [if_neg (by rw [hiD]; decide)]
   exact ⟨hS, H⟩
  ·obtain ⟨hun, oj, hoj, hall⟩ := mem_ready.1 hj
   have hjD : D.contains j = false := by
    cases hd : D.contains j with
    | false => rfl
    | true =>
     rcases hX.all j (by simpa using hd) with h1 | h1
     ·exact absurd h1 (hX.ready hj e)
     ·rw [h1] at hun; cases hun
   have hno : ∀ e ∈ oj.after, Region.binds .any e = true → e.on ≠ i := fun d hd hb he => by
    have g1 := hall d hd hb
    have g0 := (mem_ready.1 hr).1
    rw [he] at g1
    by_cases hl : i < listed.size
    ·rw [Array.getD_eq_getD_getElem?, Array.getElem?_eq_getElem hl] at g0 g1
     simp only [Option.getD_some] at g0 g1
     rw [g0] at g1
     cases g1
    ·rw [Array.getD_eq_getD_getElem?, Array.getElem?_eq_none (by omega)] at g1
     cases g1
   have h2 := opI_other hoj (calm_at hc hi) (calm_at hc hoj) (hfree j oj hoj e hun hno) hQ hy (H.2 j (ready_mono hj e))
   refine wpOpIn_mono (fun a' w' h3 => ?_) h2
   rw [if_neg (by rw [hjD]; decide)] at h3 ⊢
   refine ⟨h3.2.1, ih _ a' w' (hX.step hj e) (fun k ok hk hki hku hkn => hfree k ok hk hki ?_ hkn) (ready_mono hr (Ne.symm e)) h3.1 h3.2.1 ?_⟩
   ·rcases Decidable.em (j = k) with ek | ek
    ·rw [← ek]; exact hun
    ·rw [getD_set_ne true ek] at hku; exact hku
   ·rw [Array.setIfInBounds_comm _ _ e]
    exact h3.2.2
theorem heldI_take {i : Nat} {X : List Nat} {oi : Oper} {v : Value} {fuel : Nat} {listed : Array Bool} {a : Act} {w : World} (hi : ops[i]? = some oi)
  (hs : calmB ops = true) (hf : Region.free .any ops listed i = true) (hr : (Region.ready .any ops listed).contains i = true) (hX : (!(D.contains i) && waitB ops D listed i X) = true)
  (hQ : ∀ c a w, Q (.panic c) (a.put oi.dst v) w → Q (.panic c) a w) (hy : YieldsIf P ops S oi v a) (hS : S w)
  (h : HeldI ro n P ops Q D S fuel (listed.setIfInBounds i true) (a.put oi.dst v) w) : HeldI ro n P ops Q D S (fuel + 1) listed a w := by
 simp only [Bool.and_eq_true, Bool.not_eq_true'] at hX
 exact heldI_first hi hs hQ hX.1 fuel listed a w (WaitX.of hX.2) (Region.free_spec hi hf) (by simpa using hr) hy hS h
theorem heldI_done {listed : Array Bool} {a : Act} {w : World} (hr : Region.ready .any ops listed = []) (h : Q .normal a w) : ∀ fuel, HeldI ro n P ops Q D S fuel listed a w
 | 0 => ⟨hr, h⟩
 | _ + 1 => ⟨fun _ => h, by rw [hr]; simp⟩
def ReadyI (ro : Option Nat) (n : Nat) (P : Program) (ops : Array Oper) (Q : Exit → Act → World → Prop) (D : List Nat) (S : World → Prop) (fuel : Nat) (listed : Array Bool) (a : Act) (w : World) (rs : List Nat) : Prop :=
 ∀ i ∈ rs, wpOpIn (wideR ro) n P ops Q i (fun a' w' => if D.contains i = true then HeldI ro n P ops Q D (fun _ => True) fuel (listed.setIfInBounds i true) a' w' else S w' ∧ HeldI ro n P ops Q D S fuel (listed.setIfInBounds i true) a' w') a w
theorem ReadyI.nil {fuel : Nat} {listed : Array Bool} {a : Act} {w : World} : ReadyI ro n P ops Q D S fuel listed a w [] := fun _ h => by cases h
theorem wpOpIn_at {i : Nat} {o : Oper} {a : Act} {w : World} {K : Act → World → Prop} (ho : ops[i]? = some o) (h : if Region.wanted o (yielded ops a.tmps) = true then Oper.wpIn (wideR ro) n P o a w K Q else K (a.put o.dst undef) w) : wpOpIn (wideR ro) n P ops Q i K a w := by
 unfold wpOpIn
 simp only [ho]
 split at h
 ·rename_i hw; simp only [hw, if_true]; exact h
 ·rename_i hw
  have hw : Region.wanted o (yielded ops a.tmps) = false := by simpa using hw
  simp only [hw, Bool.false_eq_true, if_false]
  exact ⟨fun f _ => trivial, h⟩
theorem ReadyI.cons {fuel : Nat} {listed : Array Bool} {a : Act} {w : World} {i : Nat} {o : Oper} {rs : List Nat} (ho : ops[i]? = some o) (hd : D.contains i = false)
  (h : ∀ K' : Act → World → Prop, Shut (∀ a w, S w → (S w → HeldI ro n P ops Q D S fuel (listed.setIfInBounds i true) a w) → K' a w) → if Region.wanted o (yielded ops a.tmps) = true then Oper.wpIn (wideR ro) n P o a w K' Q else K' (a.put o.dst undef) w)
  (hs : ReadyI ro n P ops Q D S fuel listed a w rs) : ReadyI ro n P ops Q D S fuel listed a w (i :: rs) := fun j hj => by
 rcases List.mem_cons.1 hj with rfl | hj
 ·exact wpOpIn_at ho (h _ (fun a w hS hW => by rw [if_neg (by rw [hd]; decide)]; exact ⟨hS, hW hS⟩))
 ·exact hs j hj
theorem ReadyI.consD {fuel : Nat} {listed : Array Bool} {a : Act} {w : World} {i : Nat} {o : Oper} {rs : List Nat} (ho : ops[i]? = some o) (hd : D.contains i = true)
  (h : ∀ K' : Act → World → Prop, Shut (∀ a w, HeldI ro n P ops Q D (fun _ => True) fuel (listed.setIfInBounds i true) a w → K' a w) → if Region.wanted o (yielded ops a.tmps) = true then Oper.wpIn (wideR ro) n P o a w K' Q else K' (a.put o.dst undef) w)
  (hs : ReadyI ro n P ops Q D S fuel listed a w rs) : ReadyI ro n P ops Q D S fuel listed a w (i :: rs) := fun j hj => by
 rcases List.mem_cons.1 hj with rfl | hj
 ·exact wpOpIn_at ho (h _ (fun a w hW => by rw [if_pos hd]; exact hW))
 ·exact hs j hj
theorem heldI_ready {rs : List Nat} {fuel : Nat} {listed : Array Bool} {a : Act} {w : World} (hr : Region.ready .any ops listed = rs) (hne : rs ≠ []) (h : ReadyI ro n P ops Q D S fuel listed a w rs) : HeldI ro n P ops Q D S (fuel + 1) listed a w :=
 ⟨fun h0 => absurd (hr ▸ h0) hne, hr ▸ h⟩
theorem wpIn_region_heldI (D : List Nat) {id : Nat} {a : Act} {w : World} (hm : P.follows .mixedOrders = true) (hS : S w.drew) (h : S w.drew → HeldI ro n P ops Q D S ops.size (Array.replicate ops.size false) a w.drew) :
  (Code.region id ops true).wpIn (wideR ro) n P Q a w := wpIn_region_any hm (heldI_any _ _ _ _ _ (h hS))
theorem wpIn_region_calm {id : Nat} {b : Bool} {a : Act} {w : World} (h : (Code.region id ops b).wpIn (wideR ro) n P (NoPanic Q) a w) : (Code.region id ops b).wpIn (wideR ro) n P Q a w :=
 wpIn_mono h NoPanic.imp
end
end Go.Proofs.Ythdhchhpjoghlaa
namespace Go.Proofs.Ythdhchhpjoghlaa
theorem tkI {ro : Option Nat} {n : Nat} {P : Program} {ops : Array Oper} {Q : Exit → Act → World → Prop} {S : World → Prop} {D : List Nat} (i : Nat) (X : List Nat) {oi : Oper} {v : Value} {fuel : Nat} {listed : Array Bool} {a a' : Act} {w : World} (hS : S w) (h : HeldI ro n P ops Q D S fuel (listed.setIfInBounds i true) a' w)
 (hi : ops[i]? = some oi := by (simp only [layG]; rfl)) (h1 : calmB ops = true := by kernel_rfl) (h2 : Region.free .any ops listed i = true := by kernel_rfl) (h3 : (Region.ready .any ops listed).contains i = true := by kernel_rfl) (h4 : (!D.contains i && waitB ops D listed i X) = true := by kernel_rfl)
 (hw : Region.wanted oi (yielded ops a.tmps) = true := by rfl) (hy : ∀ w, S w → (execOp a.eval oi).run P w = .ok (.value v) w := by (intro w hSw; (go_simp <;> with_reducible rfl)))
 (ha : a.put oi.dst v = a' := by (first | (simp only [Act.put, layS]; rfl) | rfl)) (hQ : ∀ c a w, Q (.panic c) (a.put oi.dst v) w → Q (.panic c) a w := by exact fun _ _ _ h => h) : HeldI ro n P ops Q D S (fuel + 1) listed a w := by
 subst ha; exact heldI_take hi h1 h2 h3 h4 hQ (Or.inl ⟨hw, hy⟩) hS h
theorem tkIo {ro : Option Nat} {n : Nat} {P : Program} {ops : Array Oper} {Q : Exit → Act → World → Prop} {S : World → Prop} {D : List Nat} (i : Nat) (X : List Nat) {oi : Oper} {fuel : Nat} {listed : Array Bool} {a a' : Act} {w : World} (hS : S w) (h : HeldI ro n P ops Q D S fuel (listed.setIfInBounds i true) a' w)
 (hi : ops[i]? = some oi := by (simp only [layG]; rfl)) (h1 : calmB ops = true := by kernel_rfl) (h2 : Region.free .any ops listed i = true := by kernel_rfl) (h3 : (Region.ready .any ops listed).contains i = true := by kernel_rfl) (h4 : (!D.contains i && waitB ops D listed i X) = true := by kernel_rfl)
 (hw : Region.wanted oi (yielded ops a.tmps) = false := by rfl) (ha : a.put oi.dst undef = a' := by (first | (simp only [Act.put, layS]; rfl) | rfl)) (hQ : ∀ c a w, Q (.panic c) (a.put oi.dst undef) w → Q (.panic c) a w := by exact fun _ _ _ h => h) : HeldI ro n P ops Q D S (fuel + 1) listed a w := by
 subst ha; exact heldI_take hi h1 h2 h3 h4 hQ (Or.inr ⟨hw, rfl⟩) hS h
end Go.Proofs.Ythdhchhpjoghlaa
