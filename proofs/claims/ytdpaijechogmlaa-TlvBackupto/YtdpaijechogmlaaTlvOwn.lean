/-
  A slice of items of the call's own, that an item is appended to (the program's own items, or the document's). No condition but those of each theorem.
-/
import Derived.Test.YtdpaijechogmlaaTlvMem
import Derived.Test.YtdpaijechogmlaaOctH
namespace Go.Proofs.Ytdpaijechogmlaa
open Go.RowKit

/-- The cells of items, three each. -/
def rowOf (D : World → (Nat → Prop) → Value → List UInt8 → Prop) (w : World) (S : Nat → Prop) : List Value → Fo → Prop
  | [], .nil => True
  | a :: b :: c :: xs, .cons t d k r => a = .int .u64 (t : Int) ∧ t < 18446744073709551616 ∧ D w S b d ∧ FV D w S c k ∧ rowOf D w S xs r
  | _, _ => False

section
variable {D : World → (Nat → Prop) → Value → List UInt8 → Prop} {w w' : World} {S S' : Nat → Prop}
theorem rowOf.nil_ {xs : List Value} (h : rowOf D w S xs .nil) : xs = [] := by
  match xs, h with
  | [], _ => rfl
  | [_], h => exact h.elim
  | [_, _], h => exact h.elim
  | _ :: _ :: _ :: _, h => exact h.elim
theorem rowOf.cons_ {xs : List Value} {t : Nat} {d : List UInt8} {k r : Fo} (h : rowOf D w S xs (.cons t d k r)) :
    ∃ a b c ys, xs = a :: b :: c :: ys ∧ a = .int .u64 (t : Int) ∧ t < 18446744073709551616 ∧ D w S b d ∧ FV D w S c k ∧ rowOf D w S ys r := by
  match xs, h with
  | [], h => exact h.elim
  | [_], h => exact h.elim
  | [_, _], h => exact h.elim
  | a :: b :: c :: ys, h => exact ⟨a, b, c, ys, rfl, h⟩
theorem rowOf.kept (hD : Stays D) (hk : ∀ g, S g → w'.heap[g]? = w.heap[g]?) (hS : ∀ g, S g → S' g) : ∀ {f : Fo} {xs : List Value}, rowOf D w S xs f → rowOf D w' S' xs f := by
  intro f
  induction f with
  | nil =>
    intro xs h
    obtain rfl := h.nil_
    trivial
  | cons t d k r _ ih =>
    intro xs h
    obtain ⟨a, b, c, ys, rfl, h1, h2, h3, h4, h5⟩ := h.cons_
    exact ⟨h1, h2, hD _ _ _ _ _ _ hk hS h3, h4.kept hD hk hS, ih h5⟩
theorem rowOf.snoc {t : Nat} {d : List UInt8} {k : Fo} {a b c : Value} (h1 : a = .int .u64 (t : Int)) (h2 : t < 18446744073709551616) (h3 : D w S b d) (h4 : FV D w S c k) :
    ∀ {f : Fo} {xs : List Value}, rowOf D w S xs f → rowOf D w S (xs ++ [a, b, c]) (f.app (.cons t d k .nil)) := by
  intro f
  induction f with
  | nil =>
    intro xs h
    obtain rfl := h.nil_
    exact ⟨h1, h2, h3, h4, trivial⟩
  | cons t' d' k' r _ ih =>
    intro xs h
    obtain ⟨a', b', c', ys, rfl, g1, g2, g3, g4, g5⟩ := h.cons_
    exact ⟨g1, g2, g3, g4, ih g5⟩
/-- Cells that read as items, in a block. -/
theorem rowOf.at {b : Nat} : ∀ {f : Fo} {xs : List Value} {o : Nat}, rowOf D w S xs f → (∀ j u, xs[j]? = some u → w.cell? ⟨b, o + j, none⟩ = some u) → FAt D w S f b o := by
  intro f
  induction f with
  | nil => intro xs o _ _; trivial
  | cons t d k r _ ih =>
    intro xs o h hc
    obtain ⟨x0, x1, x2, ys, rfl, g1, g2, g3, ⟨A, c, hx2, g4, g5⟩, g6⟩ := h.cons_
    refine ⟨by rw [← g1]; exact hc 0 _ rfl, g2, ⟨x1, hc 1 _ rfl, g3⟩, ⟨A, c, by rw [← hx2]; exact hc 2 _ rfl, g4, g5⟩, ih g6 (fun j u hj => ?_)⟩
    have h := hc (j + 3) u (by simpa using hj)
    rwa [show o + (j + 3) = o + 3 + j by omega] at h
end

/-- The blocks that are the call's own, but for the slice's. -/
def Its (base : Nat) (w : World) (v : Value) (g : Nat) : Prop := base ≤ g ∧ g < w.heap.size ∧ some g ≠ v.ownBlock
/-- The blocks that are the call's own. -/
def Mine (base : Nat) (w : World) (g : Nat) : Prop := base ≤ g ∧ g < w.heap.size

/-- The slice v, of items f of the type e, is the call's own (from base on). -/
def OwnF (D : World → (Nat → Prop) → Value → List UInt8 → Prop) (e : TypeId) (w : World) (base : Nat) (v : Value) (f : Fo) : Prop :=
  ∃ xs, w.ownsRow base e 3 v f.len xs ∧ rowOf D w (Its base w v) xs f

section
variable {D : World → (Nat → Prop) → Value → List UInt8 → Prop} {e : TypeId} {w w' : World} {base : Nat} {v : Value} {f : Fo}
theorem OwnF.nil (w : World) (base : Nat) : OwnF D e w base (.slice none 0 0) .nil := ⟨[], World.ownsRow_nil w base e 3, trivial⟩
theorem OwnF.below (hD : Stays D) (h : OwnF D e w base v f) (hb : Below w.heap.size w w') : OwnF D e w' base v f := by
  obtain ⟨xs, h1, h2⟩ := h
  exact ⟨xs, World.ownsRow.kept h1 ⟨hb.os, hb.tape, hb.output, hb.size, fun k hk _ => hb.block k hk⟩ (row := none) (by cases hv : v.ownBlock <;> simp),
    h2.kept hD (fun g hg => hb.block g hg.2.1) (fun g hg => ⟨hg.1, Nat.lt_of_lt_of_le hg.2.1 hb.size, hg.2.2⟩)⟩
theorem OwnF.lt (h : OwnF D e w base v f) : ∀ k, v.ownBlock = some k → base ≤ k ∧ k < w.heap.size := by
  obtain ⟨xs, h1, _⟩ := h
  exact fun k hk => World.ownsRow.lt h1 k hk
theorem OwnF.fv (hD : Stays D) (h : OwnF D e w base v f) : FV D w (Mine base w) v f := by
  obtain ⟨xs, h1, h2⟩ := h
  have h2' : rowOf D w (Mine base w) xs f := h2.kept hD (fun _ _ => rfl) (fun g hg => ⟨hg.1, hg.2.1⟩)
  have hlt := fun k hk => World.ownsRow.lt h1 k hk
  have hh := h1
  rcases h1.2 with ⟨rfl, h0⟩ | ⟨g, cap, cur, rfl, hb, hg, hnc, hcm, hcs, ht⟩
  · exact ⟨none, 0, by rw [h0], by omega, fun h => absurd h (by omega)⟩
  · refine ⟨_, cap, rfl, hnc, fun h0 => ⟨g, 0, rfl, hlt g rfl, h2'.at (fun j u hj => ?_)⟩⟩
    have hjl : j < xs.length := (List.getElem?_eq_some_iff.1 hj).1
    have hxl : xs.length = f.len * 3 := h1.1
    rw [World.ownsRow.cellAt hh (0 + j) (by omega), Nat.zero_add, hj]
end

/-- What an append of an item leaves. -/
def AppF (D : World → (Nat → Prop) → Value → List UInt8 → Prop) (e : TypeId) (w : World) (base : Nat) (v : Value) (f : Fo) (v' : Value) (w' : World) : Prop :=
  OwnF D e w' base v' f ∧ w.grownBy w' v.ownBlock ∧ (v'.ownBlock = v.ownBlock ∨ v'.ownBlock = some w.heap.size) ∧ ∃ g c, v' = .slice (some ⟨g, 0, none⟩) f.len c

theorem AppF.below {D : World → (Nat → Prop) → Value → List UInt8 → Prop} {e : TypeId} {w w' : World} {base : Nat} {v v' : Value} {f f0 : Fo} (h : AppF D e w base v f v' w') (hown : OwnF D e w base v f0) (hb : base ≤ w.heap.size) : Below base w w' :=
  (Below.refl _ _).grown h.2.1 hb fun k e => (hown.lt k e).1

theorem run_append_it {P : Program} {D : World → (Nat → Prop) → Value → List UInt8 → Prop} (hD : Stays D) (hone : ∀ w S v d, D w S v d → v.oneCell' = true) {ts e : TypeId} {z : Value} {bytes : Nat} (hu : P.underlying ts = some (.slice e))
    (hinfo : (P.info? e).map (fun i => (i.zero, i.size, i.bytes)) = some (some z, 3, bytes)) (hz : z.cells.size = 3) (w : World) (base : Nat) (v : Value) (f : Fo) (hown : OwnF D e w base v f)
    (g : Nat) (t : Nat) (d : List UInt8) (k : Fo) (bv cv : Value) (hblk : Blk w g e #[.int .u64 (t : Int), bv, cv]) (ht : t < 18446744073709551616) (hd : D w (Its base w v) bv d) (hk : FV D w (Its base w v) cv k)
    (hb : (f.len + 1) * bytes ≤ 140737488355328) (hlen : f.len + 1 ≤ 140737488355328) (hbase : base ≤ w.heap.size) :
    ∃ v' w', (Builtin.append_ #[ts, ts] ts #[v, .slice (some ⟨g, 0, none⟩) 1 1]).run P w = .ok v' w' ∧ AppF D e w base v (f.app (.cons t d k .nil)) v' w' := by
  obtain ⟨i, hi, hz0, hz1, hz2⟩ := info_parts hinfo
  obtain ⟨xs, h1, h2⟩ := hown
  have hlt := fun k hk => World.ownsRow.lt h1 k hk
  have hcv : cv.oneCell' = true := by obtain ⟨A, c, rfl, _⟩ := hk; rfl
  obtain ⟨v', w', hrun, k1, k2, _, k3⟩ := run_append_own_at (P := P) (w := w) base ts ts e i z 3 bytes hu hi hz0 hz1 hz2 hz (by decide) v f.len xs h1
    ⟨g, 0, none⟩ 1 1 [.int .u64 (t : Int), bv, cv] rfl (fun j u hj => by
      have e1 : (⟨g, 0, none⟩ : Addr).add j = ⟨g, j, none⟩ := by unfold Addr.add; split <;> simp_all
      rw [e1, hblk.cell]
      simpa using hj) (by
      intro u hu
      simp only [List.mem_cons, List.not_mem_nil, or_false] at hu
      rcases hu with rfl | rfl | rfl
      · rfl
      · exact hone _ _ _ _ hd
      · exact hcv) (by unfold maxLen; omega) hb hbase
  have hlen' : (f.app (.cons t d k .nil)).len = f.len + 1 := by rw [Fo.len_app]; rfl
  refine ⟨v', w', hrun, ⟨xs ++ [.int .u64 (t : Int), bv, cv], by rw [hlen']; exact k1, ?_⟩, k2, k3, ?_⟩
  · have h3 := rowOf.snoc (D := D) (w := w) rfl ht hd hk h2
    refine h3.kept hD (fun g' hg' => k2.block g' hg'.2.1 hg'.2.2) (fun g' hg' => ⟨hg'.1, Nat.lt_of_lt_of_le hg'.2.1 k2.size, ?_⟩)
    rcases k3 with h | h
    · rw [h]; exact hg'.2.2
    · rw [h]; intro h'; injection h' with h'; have := hg'.2.1; omega
  · rw [hlen']
    rcases k1.2 with ⟨_, h0⟩ | ⟨g', cap, _, rfl, _⟩
    · omega
    · exact ⟨g', cap, rfl⟩

theorem wp_append_it {P : Program} {D : World → (Nat → Prop) → Value → List UInt8 → Prop} (hD : Stays D) (hone : ∀ w S v d, D w S v d → v.oneCell' = true) {ts e : TypeId} {z : Value} {bytes : Nat} (hu : P.underlying ts = some (.slice e))
    (hinfo : (P.info? e).map (fun i => (i.zero, i.size, i.bytes)) = some (some z, 3, bytes)) (hz : z.cells.size = 3) {w : World} {o : Oper} {a : Act} {K : Act → World → Prop} {Q : Exit → Act → World → Prop} (s x : Operand)
    (ho : o.op = .call { callee := .builtin .append, args := #[s, x], argTypes := #[ts, ts] }) (hty : o.type = ts)
    (base : Nat) (v : Value) (f : Fo) (hs : a.eval s = v) (hown : OwnF D e w base v f) (g : Nat) (hx : a.eval x = .slice (some ⟨g, 0, none⟩) 1 1)
    (t : Nat) (d : List UInt8) (k : Fo) (bv cv : Value) (hblk : Blk w g e #[.int .u64 (t : Int), bv, cv]) (ht : t < 18446744073709551616) (hd : D w (Its base w v) bv d) (hk : FV D w (Its base w v) cv k)
    (hb : (f.len + 1) * bytes ≤ 140737488355328) (hlen : f.len + 1 ≤ 140737488355328) (hbase : base ≤ w.heap.size)
    (hK : ∀ v' w', AppF D e w base v (f.app (.cons t d k .nil)) v' w' → K (a.put o.dst v') w') : o.wp P a w K Q := by
  obtain ⟨v', w', hrun, h2⟩ := run_append_it hD hone hu hinfo hz w base v f hown g t d k bv cv hblk ht hd hk hb hlen hbase
  unfold Oper.wp execOp
  simp only [ho, hty, resolve, invoke, builtin, Sem.run_bind, Sem.run_pure, Result.andThen_ok, List.map_toArray, List.map_cons, List.map_nil, hs, hx, hrun]
  exact hK v' w' h2

theorem wpList_append_it {P : Program} {D : World → (Nat → Prop) → Value → List UInt8 → Prop} (hD : Stays D) (hone : ∀ w S v d, D w S v d → v.oneCell' = true) {ts e : TypeId} {z : Value} {bytes : Nat} (hu : P.underlying ts = some (.slice e))
    (hinfo : (P.info? e).map (fun i => (i.zero, i.size, i.bytes)) = some (some z, 3, bytes)) (hz : z.cells.size = 3) {w : World} {ops : Array Oper} {rest : List Oper} {o : Oper} {a : Act} {Q : Exit → Act → World → Prop} (hgd : o.guard = none) (s x : Operand)
    (ho : o.op = .call { callee := .builtin .append, args := #[s, x], argTypes := #[ts, ts] }) (hty : o.type = ts)
    (base : Nat) (v : Value) (f : Fo) (hs : a.eval s = v) (hown : OwnF D e w base v f) (g : Nat) (hx : a.eval x = .slice (some ⟨g, 0, none⟩) 1 1)
    (t : Nat) (d : List UInt8) (k : Fo) (bv cv : Value) (hblk : Blk w g e #[.int .u64 (t : Int), bv, cv]) (ht : t < 18446744073709551616) (hd : D w (Its base w v) bv d) (hk : FV D w (Its base w v) cv k)
    (hb : (f.len + 1) * bytes ≤ 140737488355328) (hlen : f.len + 1 ≤ 140737488355328) (hbase : base ≤ w.heap.size)
    (hK : ∀ v' w', AppF D e w base v (f.app (.cons t d k .nil)) v' w' → wpList P ops Q rest (a.put o.dst v') w') : wpList P ops Q (o :: rest) a w :=
  wpList_plain hgd fun _ hK' => wp_append_it hD hone hu hinfo hz s x ho hty base v f hs hown g hx t d k bv cv hblk ht hd hk hb hlen hbase fun v' w' hp => hK' _ _ (hK v' w' hp)

theorem one_R (w : World) (S : Nat → Prop) (v : Value) (d : List UInt8) (h : DataR w S v d) : v.oneCell' = true := by unfold DataR at h; subst h; rfl
theorem one_I (w : World) (S : Nat → Prop) (v : Value) (d : List UInt8) (h : DataI w S v d) : v.oneCell' = true := by obtain ⟨_, ⟨A, c, rfl, _⟩, _⟩ := h; rfl

end Go.Proofs.Ytdpaijechogmlaa
