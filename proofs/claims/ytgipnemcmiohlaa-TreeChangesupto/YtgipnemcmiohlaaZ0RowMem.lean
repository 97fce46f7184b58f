/- What the laws of package tree want of RowMem. -/
import Derived.Test.YtgipnemcmiohlaaZ0OctH
import Derived.Deep.Onto
namespace Go.Proofs.Ytgipnemcmiohlaa
open Go.RowKit
set_option linter.unusedSimpArgs false
/-- The slice v has n elements of k cells each, which hold xs, in block d (where there is any). -/
def RowK (k : Nat) (w : World) (d : Nat) (v : Value) (n : Nat) (xs : List Value) : Prop :=
  xs.length = n * k ∧ ∃ A c, v = .slice A n c ∧ n ≤ c ∧ (0 < n → d < w.heap.size ∧ ∃ off, A = some ⟨d, off, none⟩ ∧ ∀ j u, xs[j]? = some u → w.cell? ⟨d, off + j, none⟩ = some u)
section
variable {k : Nat} {w w' : World} {d : Nat} {v : Value} {n : Nat} {xs : List Value}
theorem RowK.shape (h : RowK k w d v n xs) : ∃ A c, v = .slice A n c := by obtain ⟨_, A, c, h, _⟩ := h; exact ⟨A, c, h⟩
theorem RowK.nil (k : Nat) (w : World) (d : Nat) : RowK k w d (.slice none 0 0) 0 [] := ⟨by simp, none, 0, rfl, Nat.le_refl _, fun h => absurd h (by simp)⟩
theorem RowK.below (h : RowK k w d v n xs) (hb : Below w.heap.size w w') : RowK k w' d v n xs := by
  obtain ⟨h0, A, c, rfl, h1, h2⟩ := h
  refine ⟨h0, A, c, rfl, h1, fun hp => ?_⟩
  obtain ⟨hlt, off, rfl, hc⟩ := h2 hp
  exact ⟨Nat.lt_of_lt_of_le hlt hb.size, off, rfl, fun j x hx => (hb.cell (p := ⟨d, off + j, none⟩) hlt).trans (hc j x hx)⟩
theorem RowK.grown {row : Option Nat} (h : RowK k w d v n xs) (hb : w.grownBy w' row) (hd : 0 < n → some d ≠ row) : RowK k w' d v n xs := by
  obtain ⟨h0, A, c, rfl, h1, h2⟩ := h
  refine ⟨h0, A, c, rfl, h1, fun hp => ?_⟩
  obtain ⟨hlt, off, rfl, hc⟩ := h2 hp
  exact ⟨Nat.lt_of_lt_of_le hlt hb.size, off, rfl, fun j x hx => (World.cell?_of_block (a := ⟨d, off + j, none⟩) (hb.block d hlt (hd hp))).trans (hc j x hx)⟩
theorem RowK.at {A : Option Addr} {m c : Nat} (h : RowK k w d (.slice A m c) n xs) (h0 : 0 < n) : m = n ∧ m ≤ c ∧ ∃ off, A = some ⟨d, off, none⟩ ∧ d < w.heap.size ∧ ∀ j u, xs[j]? = some u → w.cell? ⟨d, off + j, none⟩ = some u := by
  obtain ⟨_, A', c', he, h1, h2⟩ := h
  injection he with e1 e2 e3
  subst e1 e2 e3
  obtain ⟨hlt, off, e, hc⟩ := h2 h0
  exact ⟨rfl, h1, off, e, hlt, hc⟩
end
/-- The slice v, of n elements of k cells each, xs in all, is the call's own (from base on). -/
def OwnK (e : TypeId) (k : Nat) (w : World) (base : Nat) (v : Value) (n : Nat) (xs : List Value) : Prop := w.ownsRow base e k v n xs
section
variable {w w' : World} {e : TypeId} {k base : Nat} {v : Value} {n : Nat} {xs : List Value}
theorem OwnK.nil (e : TypeId) (k : Nat) (w : World) (base : Nat) : OwnK e k w base (.slice none 0 0) 0 [] := World.ownsRow_nil w base e k
theorem OwnK.below (h : OwnK e k w base v n xs) (hb : Below w.heap.size w w') : OwnK e k w' base v n xs :=
  World.ownsRow.kept h ⟨hb.os, hb.tape, hb.output, hb.size, fun k hk _ => hb.block k hk⟩ (row := none) (by cases hv : v.ownBlock <;> simp)
theorem OwnK.lt (h : OwnK e k w base v n xs) : ∀ b, v.ownBlock = some b → base ≤ b ∧ b < w.heap.size := fun b hb => World.ownsRow.lt h b hb
theorem OwnK.grown {row : Option Nat} (h : OwnK e k w base v n xs) (hg : w.grownBy w' row) (hne : v.ownBlock = none ∨ v.ownBlock ≠ row) : OwnK e k w' base v n xs := World.ownsRow.kept h hg hne
theorem OwnK.mono {base' : Nat} (h : OwnK e k w base v n xs) (hb : base' ≤ base) : OwnK e k w base' v n xs := World.ownsRow.mono h hb
theorem OwnK.row (h : OwnK e k w base v n xs) : ∃ d, RowK k w d v n xs ∧ (0 < n → base ≤ d) := by
  have hh := h
  have hlt := h.lt
  rcases h.2 with ⟨rfl, h0⟩ | ⟨g, cap, cur, rfl, hb, hg, hnc, hcm, hcs, ht⟩
  · have hx : xs.length = n * k := h.1
    exact ⟨0, ⟨hx, none, 0, by rw [h0], by omega, fun h => absurd h (by omega)⟩, fun h => absurd h (by omega)⟩
  · refine ⟨g, ⟨h.1, _, cap, rfl, hnc, fun h0 => ⟨(hlt g rfl).2, 0, rfl, fun j u hj => ?_⟩⟩, fun _ => (hlt g rfl).1⟩
    have hjl : j < xs.length := (List.getElem?_eq_some_iff.1 hj).1
    have hx : xs.length = n * k := h.1
    rw [World.ownsRow.cellAt hh (0 + j) (by omega), Nat.zero_add, hj]
theorem OwnK.shape (h : OwnK e k w base v n xs) : ∃ A c, v = .slice A n c := by
  rcases h.2 with ⟨rfl, h0⟩ | ⟨g, cap, cur, rfl, _⟩
  · exact ⟨none, 0, by rw [h0]⟩
  · exact ⟨_, _, rfl⟩
end
/-- What an append of an element leaves. -/
def AppK (e : TypeId) (k : Nat) (w : World) (base : Nat) (v : Value) (n : Nat) (xs : List Value) (v' : Value) (w' : World) : Prop :=
  OwnK e k w' base v' n xs ∧ w.grownBy w' v.ownBlock ∧ (v'.ownBlock = v.ownBlock ∨ v'.ownBlock = some w.heap.size) ∧ ∃ g c, v' = .slice (some ⟨g, 0, none⟩) n c
theorem AppK.below {e : TypeId} {k : Nat} {w w' : World} {base : Nat} {v v' : Value} {n m : Nat} {xs ys : List Value} (h : AppK e k w base v n xs v' w') (hown : OwnK e k w base v m ys) (hb : base ≤ w.heap.size) : Below base w w' :=
  (Below.refl _ _).grown h.2.1 hb fun b e => (hown.lt b e).1
theorem run_append_k {P : Program} {ts e : TypeId} {z : Value} {k bytes : Nat} (hu : P.underlying ts = some (.slice e))
    (hinfo : (P.info? e).map (fun i => (i.zero, i.size, i.bytes)) = some (some z, k, bytes)) (hz : z.cells.size = k) (hk : 0 < k) (w : World) (base : Nat) (v : Value) (n : Nat) (xs : List Value) (hown : OwnK e k w base v n xs)
    (g : Nat) (ys : List Value) (hblk : Blk w g e ys.toArray) (hys : ys.length = k) (hone : ∀ u ∈ ys, u.oneCell' = true)
    (hb : (n + 1) * bytes ≤ 140737488355328) (hlen : n + 1 ≤ 140737488355328) (hbase : base ≤ w.heap.size) :
    ∃ v' w', (Builtin.append_ #[ts, ts] ts #[v, .slice (some ⟨g, 0, none⟩) 1 1]).run P w = .ok v' w' ∧ AppK e k w base v (n + 1) (xs ++ ys) v' w' := by
  obtain ⟨i, hi, hz0, hz1, hz2⟩ := info_parts hinfo
  obtain ⟨v', w', hrun, k1, k2, _, k3⟩ := run_append_own_at (P := P) (w := w) base ts ts e i z k bytes hu hi hz0 hz1 hz2 hz hk v n xs hown
    ⟨g, 0, none⟩ 1 1 ys (by omega) (fun j u hj => by
      have e1 : (⟨g, 0, none⟩ : Addr).add j = ⟨g, j, none⟩ := by unfold Addr.add; split <;> simp_all
      rw [e1, hblk.cell]
      simpa using hj) hone (by unfold maxLen; omega) hb hbase
  refine ⟨v', w', hrun, k1, k2, k3, ?_⟩
  rcases k1.2 with ⟨_, h0⟩ | ⟨g', cap, _, rfl, _⟩
  · omega
  · exact ⟨g', cap, rfl⟩
theorem wp_append_k {P : Program} {ts e : TypeId} {z : Value} {k bytes : Nat} (hu : P.underlying ts = some (.slice e))
    (hinfo : (P.info? e).map (fun i => (i.zero, i.size, i.bytes)) = some (some z, k, bytes)) (hz : z.cells.size = k) (hk : 0 < k) {w : World} {o : Oper} {a : Act} {K : Act → World → Prop} {Q : Exit → Act → World → Prop} (s x : Operand)
    (ho : o.op = .call { callee := .builtin .append, args := #[s, x], argTypes := #[ts, ts] }) (hty : o.type = ts)
    (base : Nat) (v : Value) (n : Nat) (xs : List Value) (hs : a.eval s = v) (hown : OwnK e k w base v n xs) (g : Nat) (hx : a.eval x = .slice (some ⟨g, 0, none⟩) 1 1)
    (ys : List Value) (hblk : Blk w g e ys.toArray) (hys : ys.length = k) (hone : ∀ u ∈ ys, u.oneCell' = true)
    (hb : (n + 1) * bytes ≤ 140737488355328) (hlen : n + 1 ≤ 140737488355328) (hbase : base ≤ w.heap.size)
    (hK : ∀ v' w', AppK e k w base v (n + 1) (xs ++ ys) v' w' → K (a.put o.dst v') w') : o.wp P a w K Q := by
  obtain ⟨v', w', hrun, h2⟩ := run_append_k hu hinfo hz hk w base v n xs hown g ys hblk hys hone hb hlen hbase
  unfold Oper.wp execOp
  simp only [ho, hty, resolve, invoke, builtin, Sem.run_bind, Sem.run_pure, Result.andThen_ok, List.map_toArray, List.map_cons, List.map_nil, hs, hx, hrun]
  exact hK v' w' h2
theorem wpList_append_k {P : Program} {ts e : TypeId} {z : Value} {k bytes : Nat} (hu : P.underlying ts = some (.slice e))
    (hinfo : (P.info? e).map (fun i => (i.zero, i.size, i.bytes)) = some (some z, k, bytes)) (hz : z.cells.size = k) (hk : 0 < k) {w : World} {ops : Array Oper} {rest : List Oper} {o : Oper} {a : Act} {Q : Exit → Act → World → Prop} (hgd : o.guard = none) (s x : Operand)
    (ho : o.op = .call { callee := .builtin .append, args := #[s, x], argTypes := #[ts, ts] }) (hty : o.type = ts)
    (base : Nat) (v : Value) (n : Nat) (xs : List Value) (hs : a.eval s = v) (hown : OwnK e k w base v n xs) (g : Nat) (hx : a.eval x = .slice (some ⟨g, 0, none⟩) 1 1)
    (ys : List Value) (hblk : Blk w g e ys.toArray) (hys : ys.length = k) (hone : ∀ u ∈ ys, u.oneCell' = true)
    (hb : (n + 1) * bytes ≤ 140737488355328) (hlen : n + 1 ≤ 140737488355328) (hbase : base ≤ w.heap.size)
    (hK : ∀ v' w', AppK e k w base v (n + 1) (xs ++ ys) v' w' → wpList P ops Q rest (a.put o.dst v') w') : wpList P ops Q (o :: rest) a w :=
  wpList_plain hgd fun _ hK' => wp_append_k hu hinfo hz hk s x ho hty base v n xs hs hown g hx ys hblk hys hone hb hlen hbase fun v' w' hp => hK' _ _ (hK v' w' hp)
end Go.Proofs.Ytgipnemcmiohlaa

