/-
  Things within things: rows written out, and appends to a row of the call's own. Of no program; no condition but those of each theorem.
-/
import Derived.Test.YtkpbjgjflabloaaForest
import Derived.ArgAppend
namespace Go.Proofs.Ytkpbjgjflabloaa
open Go.RowKit
set_option linter.unusedSimpArgs false

section
variable {α : Type} {D : RdOf α} {e : TypeId} {K p : Nat} {w w' : World} {base : Nat} {S S' N N' : Nat → Prop} {v : Value} {f : Fr α}
/-- A row that is written out reads as its things. -/
theorem FrV.lit {g c : Nat} {xs : List Value} (hS : S g) (hb : Blk w g e xs.toArray) (hr : rowG D K p w S N xs f) (hc : f.len ≤ c) : FrV D K p w S N (.slice (some ⟨g, 0, none⟩) f.len c) f :=
  ⟨_, c, rfl, hc, fun _ => ⟨g, 0, rfl, hS, hr.at (fun j u hj => by
    rw [Nat.zero_add, hb.cell]
    simpa using hj)⟩⟩
/-- .. and is the call's own. -/
theorem OwnK.lit {k n g : Nat} {xs : List Value} (hb : Blk w g e xs.toArray) (hg : base ≤ g) (hl : xs.length = n * k) (hn : n ≤ maxLen) : OwnK e k w base (.slice (some ⟨g, 0, none⟩) n n) n xs :=
  ⟨hl, .inr ⟨g, n, xs.toArray, rfl, hg, hb, Nat.le_refl _, hn, by simpa using hl, by simp [← hl]⟩⟩
theorem OwnG.lit {g : Nat} {xs : List Value} (hb : Blk w g e xs.toArray) (hg : base ≤ g) (hn : f.len ≤ maxLen) (hr : rowG D K p w S N xs f) (hS : ∀ k, S k → k < w.heap.size ∧ k ≠ g) (hN : ∀ k, N k → k < w.heap.size ∧ k ≠ g) : OwnG D e K p w base S N (.slice (some ⟨g, 0, none⟩) f.len f.len) f :=
  ⟨fun k hk => ⟨(hS k hk).1, by intro h; injection h with h; exact (hS k hk).2 h⟩, fun k hk => ⟨(hN k hk).1, by intro h; injection h with h; exact (hN k hk).2 h⟩, xs, OwnK.lit hb hg hr.len hn, hr⟩
theorem OwnG.grown (hD : StayD D) {row : Option Nat} (h : OwnG D e K p w base S N v f) (hg : w.grownBy w' row) (hne : v.ownBlock = none ∨ v.ownBlock ≠ row) (hS : ∀ g, S g → some g ≠ row) (hN : ∀ g, N g → some g ≠ row) : OwnG D e K p w' base S N v f := by
  obtain ⟨h1, h2, xs, h3, h4⟩ := h
  exact ⟨fun g hg' => ⟨Nat.lt_of_lt_of_le (h1 g hg').1 hg.size, (h1 g hg').2⟩, fun g hg' => ⟨Nat.lt_of_lt_of_le (h2 g hg').1 hg.size, (h2 g hg').2⟩, xs, h3.grown hg hne,
    h4.kept hD (fun g hg' => hg.block g (h1 g hg').1 (hS g hg')) (fun _ h => h) (fun g hg' => hg.block g (h2 g hg').1 (hN g hg')) (fun _ h => h)⟩
/-- What an append of one leaves. -/
def AppG (D : RdOf α) (e : TypeId) (K p : Nat) (base : Nat) (S N : Nat → Prop) (w : World) (v : Value) (f : Fr α) (v' : Value) (w' : World) : Prop :=
  OwnG D e K p w' base S N v' f ∧ w.grownBy w' v.ownBlock ∧ (v'.ownBlock = v.ownBlock ∨ v'.ownBlock = some w.heap.size) ∧ ∃ g c, v' = .slice (some ⟨g, 0, none⟩) f.len c
theorem AppG.below {v' : Value} {g : Fr α} (h : AppG D e K p base S N w v g v' w') (hown : OwnG D e K p w base S N v f) (hb : base ≤ w.heap.size) : Below base w w' :=
  (Below.refl _ _).grown h.2.1 hb fun b e => (hown.lt b e).1
theorem wpList_append_g {P : Program} (hD : StayD D) (hO : OneD D) {ts : TypeId} {z : Value} {bytes : Nat} (hu : P.underlying ts = some (.slice e))
    (hinfo : (P.info? e).map (fun i => (i.zero, i.size, i.bytes)) = some (some z, K, bytes)) (hz : z.cells.size = K) (hk : 0 < K) {ops : Array Oper} {rest : List Oper} {o : Oper} {a : Act} {Q : Exit → Act → World → Prop} (hgd : o.guard = none) (s x : Operand)
    (ho : o.op = .call { callee := .builtin .append, args := #[s, x], argTypes := #[ts, ts] }) (hty : o.type = ts)
    (hs : a.eval s = v) (hown : OwnG D e K p w base S N v f) {g : Nat} (hx : a.eval x = .slice (some ⟨g, 0, none⟩) 1 1)
    {ys : List Value} {d : α} {q : Fr α} (hblk : Blk w g e ys.toArray) (hy : FrN D K p w S N ys d q)
    (hb : (f.len + 1) * bytes ≤ 140737488355328) (hlen : f.len + 1 ≤ 140737488355328) (hbase : base ≤ w.heap.size)
    (hK : ∀ v' w', AppG D e K p base S N w v (f.app (.cons d q .nil)) v' w' → wpList P ops Q rest (a.put o.dst v') w') : wpList P ops Q (o :: rest) a w := by
  obtain ⟨hS, hN, xs, h1, h2⟩ := hown
  have hown : OwnG D e K p w base S N v f := ⟨hS, hN, xs, h1, h2⟩
  refine wpList_append_k hu hinfo hz hk hgd s x ho hty base v f.len xs hs h1 g hx ys hblk hy.1 (hO _ _ _ _ hy.2.1) hb hlen hbase fun v' w' hap => hK v' w' ?_
  obtain ⟨k1, k2, k3, gg, c, k4⟩ := hap
  have hl : (f.app (.cons d q .nil)).len = f.len + 1 := by rw [Fr.len_app]; rfl
  exact ⟨hown.app hD h2 (by rw [hl]; exact k1) k2 k3 (rowG.one hy), k2, k3, gg, c, by rw [hl]; exact k4⟩
theorem wp_append_g {P : Program} (hD : StayD D) (hO : OneD D) {ts : TypeId} {z : Value} {bytes : Nat} (hu : P.underlying ts = some (.slice e))
    (hinfo : (P.info? e).map (fun i => (i.zero, i.size, i.bytes)) = some (some z, K, bytes)) (hz : z.cells.size = K) (hk : 0 < K) {o : Oper} {a : Act} {K' : Act → World → Prop} {Q : Exit → Act → World → Prop} (s x : Operand)
    (ho : o.op = .call { callee := .builtin .append, args := #[s, x], argTypes := #[ts, ts] }) (hty : o.type = ts)
    (hs : a.eval s = v) (hown : OwnG D e K p w base S N v f) {g : Nat} (hx : a.eval x = .slice (some ⟨g, 0, none⟩) 1 1)
    {ys : List Value} {d : α} {q : Fr α} (hblk : Blk w g e ys.toArray) (hy : FrN D K p w S N ys d q)
    (hb : (f.len + 1) * bytes ≤ 140737488355328) (hlen : f.len + 1 ≤ 140737488355328) (hbase : base ≤ w.heap.size)
    (hK : ∀ v' w', AppG D e K p base S N w v (f.app (.cons d q .nil)) v' w' → K' (a.put o.dst v') w') : o.wp P a w K' Q := by
  obtain ⟨hS, hN, xs, h1, h2⟩ := hown
  have hown : OwnG D e K p w base S N v f := ⟨hS, hN, xs, h1, h2⟩
  refine wp_append_k hu hinfo hz hk s x ho hty base v f.len xs hs h1 g hx ys hblk hy.1 (hO _ _ _ _ hy.2.1) hb hlen hbase fun v' w' hap => hK v' w' ?_
  obtain ⟨k1, k2, k3, gg, c, k4⟩ := hap
  have hl : (f.app (.cons d q .nil)).len = f.len + 1 := by rw [Fr.len_app]; rfl
  exact ⟨hown.app hD h2 (by rw [hl]; exact k1) k2 k3 (rowG.one hy), k2, k3, gg, c, by rw [hl]; exact k4⟩
end

end Go.Proofs.Ytkpbjgjflabloaa
