/-
  Rows of values of one cell each (texts, slices) in memory. No condition but those of each theorem.
-/
import Derived.Test.YtkpbjgjflabloaaOctH
import Derived.Test.YtkpbjgjflabloaaOctRef
namespace Go.Proofs.Ytkpbjgjflabloaa
open Go.RowKit
set_option linter.unusedSimpArgs false

/-- The slice v holds the values xs, which lie in block d (where there is any). -/
def Vals (w : World) (d : Nat) (v : Value) (xs : List Value) : Prop :=
  ∃ A c, v = .slice A xs.length c ∧ xs.length ≤ c ∧ (0 < xs.length → d < w.heap.size ∧ ∃ off, A = some ⟨d, off, none⟩ ∧ ∀ j u, xs[j]? = some u → w.cell? ⟨d, off + j, none⟩ = some u)
section
variable {w w' : World} {d : Nat} {v : Value} {xs : List Value}
theorem Vals.shape (h : Vals w d v xs) : ∃ A c, v = .slice A xs.length c := by obtain ⟨A, c, h, _⟩ := h; exact ⟨A, c, h⟩
theorem Vals.nil (w : World) (d : Nat) : Vals w d (.slice none 0 0) [] := ⟨none, 0, rfl, Nat.le_refl _, fun h => absurd h (by simp)⟩
theorem Vals.below {B : Nat} (h : Vals w d v xs) (hb : Below B w w') (hd : 0 < xs.length → d < B) : Vals w' d v xs := by
  obtain ⟨A, c, rfl, h1, h2⟩ := h
  refine ⟨A, c, rfl, h1, fun hp => ?_⟩
  obtain ⟨hlt, off, rfl, hc⟩ := h2 hp
  exact ⟨Nat.lt_of_lt_of_le hlt hb.size, off, rfl, fun j x hx => (hb.cell (p := ⟨d, off + j, none⟩) (hd hp)).trans (hc j x hx)⟩
theorem Vals.lt (h : Vals w d v xs) (hp : 0 < xs.length) : d < w.heap.size := by obtain ⟨A, c, rfl, h1, h2⟩ := h; exact (h2 hp).1
theorem Vals.below' (h : Vals w d v xs) (hb : Below w.heap.size w w') : Vals w' d v xs := h.below hb h.lt
theorem Vals.at {A : Option Addr} {n c : Nat} (h : Vals w d (.slice A n c) xs) {j : Nat} {u : Value} (hj : xs[j]? = some u) :
    ∃ off, A = some ⟨d, off, none⟩ ∧ d < w.heap.size ∧ j < n ∧ n = xs.length ∧ w.cell? ⟨d, off + j, none⟩ = some u := by
  obtain ⟨A', c', he, h1, h2⟩ := h
  injection he with e1 e2 e3
  subst e1 e2 e3
  have hjl : j < xs.length := (List.getElem?_eq_some_iff.1 hj).1
  obtain ⟨hlt, off, rfl, hc⟩ := h2 (by omega)
  exact ⟨off, rfl, hlt, hjl, rfl, hc j u hj⟩
end

/-- The slice v, of values xs of the type e, is the call's own (from base on). -/
def OwnV (e : TypeId) (w : World) (base : Nat) (v : Value) (xs : List Value) : Prop := w.ownsRow base e 1 v xs.length xs
section
variable {w w' : World} {e : TypeId} {base : Nat} {v : Value} {xs : List Value}
theorem OwnV.nil (w : World) (base : Nat) : OwnV e w base (.slice none 0 0) [] := World.ownsRow_nil w base e 1
theorem OwnV.below (h : OwnV e w base v xs) (hb : Below w.heap.size w w') : OwnV e w' base v xs :=
  World.ownsRow.kept h ⟨hb.os, hb.tape, hb.output, hb.size, fun k hk _ => hb.block k hk⟩ (row := none) (by cases hv : v.ownBlock <;> simp)
theorem OwnV.lt (h : OwnV e w base v xs) : ∀ k, v.ownBlock = some k → base ≤ k ∧ k < w.heap.size := fun k hk => World.ownsRow.lt h k hk
theorem OwnV.vals (h : OwnV e w base v xs) : ∃ d, Vals w d v xs ∧ (0 < xs.length → base ≤ d) := by
  have hlt := fun k hk => World.ownsRow.lt h k hk
  have hh := h
  rcases h.2 with ⟨rfl, h0⟩ | ⟨g, cap, cur, rfl, hb, hg, hnc, hcm, hcs, ht⟩
  · exact ⟨0, ⟨none, 0, by rw [h0], by omega, fun h => absurd h (by omega)⟩, fun h => absurd h (by omega)⟩
  · refine ⟨g, ⟨_, cap, rfl, hnc, fun h0 => ⟨(hlt g rfl).2, 0, rfl, fun j u hj => ?_⟩⟩, fun _ => (hlt g rfl).1⟩
    have hjl : j < xs.length := (List.getElem?_eq_some_iff.1 hj).1
    rw [World.ownsRow.cellAt hh (0 + j) (by omega), Nat.zero_add, hj]
end

/-- What an append of a value leaves. -/
def AppV (e : TypeId) (w : World) (base : Nat) (v : Value) (xs : List Value) (v' : Value) (w' : World) : Prop :=
  OwnV e w' base v' xs ∧ w.grownBy w' v.ownBlock ∧ (v'.ownBlock = v.ownBlock ∨ v'.ownBlock = some w.heap.size) ∧ ∃ g c, v' = .slice (some ⟨g, 0, none⟩) xs.length c
theorem AppV.below {e : TypeId} {w w' : World} {base : Nat} {v v' : Value} {xs ys : List Value} (h : AppV e w base v xs v' w') (hown : OwnV e w base v ys) (hb : base ≤ w.heap.size) : Below base w w' :=
  (Below.refl _ _).grown h.2.1 hb fun k e => (hown.lt k e).1

theorem run_append_v {P : Program} {ts e : TypeId} {z : Value} {bytes : Nat} (hu : P.underlying ts = some (.slice e))
    (hinfo : (P.info? e).map (fun i => (i.zero, i.size, i.bytes)) = some (some z, 1, bytes)) (hz : z.cells.size = 1) (w : World) (base : Nat) (v : Value) (xs : List Value) (hown : OwnV e w base v xs)
    (g : Nat) (x : Value) (hblk : Blk w g e #[x]) (hx : x.oneCell' = true)
    (hb : (xs.length + 1) * bytes ≤ 140737488355328) (hlen : xs.length + 1 ≤ 140737488355328) (hbase : base ≤ w.heap.size) :
    ∃ v' w', (Builtin.append_ #[ts, ts] ts #[v, .slice (some ⟨g, 0, none⟩) 1 1]).run P w = .ok v' w' ∧ AppV e w base v (xs ++ [x]) v' w' := by
  obtain ⟨i, hi, hz0, hz1, hz2⟩ := info_parts hinfo
  obtain ⟨v', w', hrun, k1, k2, _, k3⟩ := run_append_own_at (P := P) (w := w) base ts ts e i z 1 bytes hu hi hz0 hz1 hz2 hz (by decide) v xs.length xs hown
    ⟨g, 0, none⟩ 1 1 [x] rfl (fun j u hj => by
      have e1 : (⟨g, 0, none⟩ : Addr).add j = ⟨g, j, none⟩ := by unfold Addr.add; split <;> simp_all
      rw [e1, hblk.cell]
      simpa using hj) (by
      intro u hu
      simp only [List.mem_cons, List.not_mem_nil, or_false] at hu
      rw [hu]; exact hx) (by unfold maxLen; omega) hb hbase
  have hl : (xs ++ [x]).length = xs.length + 1 := by simp
  refine ⟨v', w', hrun, by unfold OwnV; rw [hl]; exact k1, k2, k3, ?_⟩
  rw [hl]
  rcases k1.2 with ⟨_, h0⟩ | ⟨g', cap, _, rfl, _⟩
  · omega
  · exact ⟨g', cap, rfl⟩

theorem wp_append_v {P : Program} {ts e : TypeId} {z : Value} {bytes : Nat} (hu : P.underlying ts = some (.slice e))
    (hinfo : (P.info? e).map (fun i => (i.zero, i.size, i.bytes)) = some (some z, 1, bytes)) (hz : z.cells.size = 1) {w : World} {o : Oper} {a : Act} {K : Act → World → Prop} {Q : Exit → Act → World → Prop} (s x : Operand)
    (ho : o.op = .call { callee := .builtin .append, args := #[s, x], argTypes := #[ts, ts] }) (hty : o.type = ts)
    (base : Nat) (v : Value) (xs : List Value) (hs : a.eval s = v) (hown : OwnV e w base v xs) (g : Nat) (hx : a.eval x = .slice (some ⟨g, 0, none⟩) 1 1)
    (u : Value) (hblk : Blk w g e #[u]) (hu1 : u.oneCell' = true)
    (hb : (xs.length + 1) * bytes ≤ 140737488355328) (hlen : xs.length + 1 ≤ 140737488355328) (hbase : base ≤ w.heap.size)
    (hK : ∀ v' w', AppV e w base v (xs ++ [u]) v' w' → K (a.put o.dst v') w') : o.wp P a w K Q := by
  obtain ⟨v', w', hrun, h2⟩ := run_append_v hu hinfo hz w base v xs hown g u hblk hu1 hb hlen hbase
  unfold Oper.wp execOp
  simp only [ho, hty, resolve, invoke, builtin, Sem.run_bind, Sem.run_pure, Result.andThen_ok, List.map_toArray, List.map_cons, List.map_nil, hs, hx, hrun]
  exact hK v' w' h2

theorem wpList_append_v {P : Program} {ts e : TypeId} {z : Value} {bytes : Nat} (hu : P.underlying ts = some (.slice e))
    (hinfo : (P.info? e).map (fun i => (i.zero, i.size, i.bytes)) = some (some z, 1, bytes)) (hz : z.cells.size = 1) {w : World} {ops : Array Oper} {rest : List Oper} {o : Oper} {a : Act} {Q : Exit → Act → World → Prop} (hgd : o.guard = none) (s x : Operand)
    (ho : o.op = .call { callee := .builtin .append, args := #[s, x], argTypes := #[ts, ts] }) (hty : o.type = ts)
    (base : Nat) (v : Value) (xs : List Value) (hs : a.eval s = v) (hown : OwnV e w base v xs) (g : Nat) (hx : a.eval x = .slice (some ⟨g, 0, none⟩) 1 1)
    (u : Value) (hblk : Blk w g e #[u]) (hu1 : u.oneCell' = true)
    (hb : (xs.length + 1) * bytes ≤ 140737488355328) (hlen : xs.length + 1 ≤ 140737488355328) (hbase : base ≤ w.heap.size)
    (hK : ∀ v' w', AppV e w base v (xs ++ [u]) v' w' → wpList P ops Q rest (a.put o.dst v') w') : wpList P ops Q (o :: rest) a w :=
  wpList_plain hgd fun _ hK' => wp_append_v hu hinfo hz s x ho hty base v xs hs hown g hx u hblk hu1 hb hlen hbase fun v' w' hp => hK' _ _ (hK v' w' hp)

/-- A row of texts, as values. -/
def txts (ls : List (List UInt8)) : List Value := ls.map fun l => .string (txt l)
theorem txts_length (ls : List (List UInt8)) : (txts ls).length = ls.length := by simp [txts]
theorem txts_snoc (ls : List (List UInt8)) (l : List UInt8) : txts ls ++ [.string (txt l)] = txts (ls ++ [l]) := by simp [txts]
theorem txts_at {ls : List (List UInt8)} {j : Nat} {l : List UInt8} (h : ls[j]? = some l) : (txts ls)[j]? = some (.string (txt l)) := by simp [txts, h]

end Go.Proofs.Ytkpbjgjflabloaa
