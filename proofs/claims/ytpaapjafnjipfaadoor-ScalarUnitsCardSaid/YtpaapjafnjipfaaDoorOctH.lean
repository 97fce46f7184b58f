/-
  A slice of bytes of the call's own, that bytes are appended to. No condition but those of each theorem.
-/
import Derived.Test.YtpaapjafnjipfaaDoorOctG
import Derived.Maps.AppendAt
import Derived.Deep.AppendLies
import Derived.OwnWalk
namespace Go.Proofs.YtpaapjafnjipfaaDoor
open Go.RowKit

/-- The slice v, of bytes l, lies at the head of a block of the call's own (from base on), or is nil. -/
def Own (w : World) (base : Nat) (v : Value) (l : List UInt8) : Prop := w.ownsRow base 5 1 v l.length (l.map byteV)

section
variable {w w' : World} {base : Nat} {v : Value} {l : List UInt8}
theorem Own.nil (w : World) (base : Nat) : Own w base (.slice none 0 0) [] := World.ownsRow_nil w base 5 1
theorem Own.below (h : Own w base v l) (hb : Below w.heap.size w w') : Own w' base v l :=
  World.ownsRow.kept h ⟨hb.os, hb.tape, hb.output, hb.size, fun k hk _ => hb.block k hk⟩ (row := none) (by cases hv : v.ownBlock <;> simp)
theorem Own.rd (h : Own w base v l) (hl : l.length ≤ 140737488355328) : ∃ d, base ≤ d ∧ (v.ownBlock = none ∧ v = .slice none 0 0 ∨ v.ownBlock = some d ∧ d < w.heap.size) ∧ Rd w d v l := by
  have hh := h
  obtain ⟨_, h2⟩ := h
  rcases h2 with ⟨rfl, hn⟩ | ⟨g, cap, cur, rfl, hb, hg, hnc, hcm, hs, ht⟩
  · have : l = [] := List.eq_nil_of_length_eq_zero hn
    subst this
    exact ⟨base, Nat.le_refl _, .inl ⟨rfl, rfl⟩, Rd.nil _ _⟩
  · have hlt : g < w.heap.size := by
      rcases Nat.lt_or_ge g w.heap.size with hlt | hge
      · exact hlt
      · rw [Array.getElem?_eq_none hge] at hg; cases hg
    refine ⟨g, hb, .inr ⟨rfl, hlt⟩, _, cap, rfl, hnc, hl, fun _ => ⟨0, rfl, fun j b hj => ?_⟩⟩
    have hjl : j < l.length := (List.getElem?_eq_some_iff.1 hj).1
    rw [World.ownsRow.cellAt hh (0 + j) (by omega)]
    simp [hj]
theorem Own.rd' (h : Own w base v l) (hl : l.length ≤ 140737488355328) : ∃ d, d ≤ w.heap.size ∧ Rd w d v l := by
  obtain ⟨d, _, h2, hr⟩ := h.rd hl
  rcases h2 with ⟨_, rfl⟩ | ⟨_, h2⟩
  · obtain ⟨A, c, e, _⟩ := id hr
    injection e with _ e2
    have : l = [] := List.eq_nil_of_length_eq_zero e2.symm
    exact ⟨0, Nat.zero_le _, hr.block this 0⟩
  · exact ⟨d, Nat.le_of_lt h2, hr⟩
theorem Own.made (w : World) (n : Nat) (b : UInt8) (hb : base ≤ w.heap.size) (hn : n ≤ 140737488355328) (cs : Array Value) (hcs : cs = ((List.replicate n b).map byteV).toArray) :
    Own (w.alloc (.cells cs 5)) base (.slice (some ⟨w.heap.size, 0, none⟩) n n) (List.replicate n b) := by
  subst hcs
  refine ⟨by simp, .inr ⟨w.heap.size, n, _, by simp, hb, heap_alloc_new w _, by simp, by unfold maxLen; omega, by simp, ?_⟩⟩
  simp only [Nat.mul_one]
  exact List.take_of_length_le (by simp)
end

theorem run_append_rd (w : World) (base : Nat) (v : Value) (l0 : List UInt8) (hown : Own w base v l0) (d : Nat) (u : Value) (l : List UInt8) (h : Rd w d u l)
    (hb : l0.length + l.length ≤ 140737488355328) (hbase : base ≤ w.heap.size) :
    ∃ v' w', (Builtin.append_ #[30, 30] 30 #[v, u]).run Tryd.prog w = .ok v' w' ∧ Own w' base v' (l0 ++ l) ∧ w.grownBy w' v.ownBlock ∧ (v'.ownBlock = v.ownBlock ∨ v'.ownBlock = some w.heap.size) := by
  obtain ⟨i, hi, hz0, hz1, hz2⟩ := info_parts Tryd.cells22o
  obtain ⟨A, c, rfl, h1, h2, h3⟩ := h
  have one : ∀ x ∈ l.map byteV, x.oneCell' = true := by
    intro x hx
    obtain ⟨b, _, rfl⟩ := List.mem_map.1 hx
    rfl
  rcases A with _ | ad
  · have hl : l = [] := by
      rcases Nat.eq_zero_or_pos l.length with h0 | h0
      · exact List.eq_nil_of_length_eq_zero h0
      · obtain ⟨_, he, _⟩ := h3 h0
        cases he
    subst hl
    refine ⟨v, w, ?_, by simpa using hown, World.grownBy.refl w _, .inl rfl⟩
    have hown' := hown
    rcases hown.2 with ⟨rfl, _⟩ | ⟨g, cap, cur, rfl, _, _, hnc, _⟩
    · simp [Builtin.append_, run_underlying Tryd.underlying30, sizeOf, typeInfo, hi, Builtin.lenOf, Builtin.firstCells]
    · simp [Builtin.append_, run_underlying Tryd.underlying30, sizeOf, typeInfo, hi, Builtin.lenOf, Builtin.firstCells, hnc, storeCells]
  · have hcells : ∀ j x, (l.map byteV)[j]? = some x → w.cell? (ad.add j) = some x := by
      intro j x hj
      obtain ⟨b, hb', rfl⟩ : ∃ b, l[j]? = some b ∧ byteV b = x := by simpa using hj
      have hjl : j < l.length := (List.getElem?_eq_some_iff.1 hb').1
      obtain ⟨off, he, hc⟩ := h3 (by omega)
      injection he with he
      subst he
      have e : (⟨d, off, none⟩ : Addr).add j = ⟨d, off + j, none⟩ := by unfold Addr.add; split <;> simp_all
      rw [e]
      exact hc j b hb'
    obtain ⟨v', w', hrun, k1, k2, _, k3⟩ := run_append_own_at (P := Tryd.prog) w base 30 30 5 i (.int .u8 0) 1 1 Tryd.underlying30 hi hz0 hz1 hz2 rfl (by decide) v l0.length (l0.map byteV) hown
      ad l.length c (l.map byteV) (by simp) hcells one (by unfold maxLen; omega) (by omega) hbase
    refine ⟨v', w', hrun, ?_, k2, k3⟩
    unfold Own
    rw [List.length_append, List.map_append]
    exact k1

/-- What an append leaves. -/
def AppPost (w : World) (base : Nat) (v : Value) (l : List UInt8) (v' : Value) (w' : World) : Prop :=
  Own w' base v' l ∧ w.grownBy w' v.ownBlock ∧ (v'.ownBlock = v.ownBlock ∨ v'.ownBlock = some w.heap.size)

theorem AppPost.below {w w' : World} {base : Nat} {v v' : Value} {l l0 : List UInt8} (h : AppPost w base v l v' w') (hown : Own w base v l0) (hb : base ≤ w.heap.size) : Below base w w' :=
  (Below.refl _ _).grown h.2.1 hb fun k e => (World.ownsRow.lt hown k e).1

theorem wp_append_rd {w : World} {o : Oper} {a : Act} {K : Act → World → Prop} {Q : Exit → Act → World → Prop} (s x : Operand)
    (ho : o.op = .call { callee := .builtin .append, args := #[s, x], argTypes := #[30, 30] }) (hty : o.type = 30)
    (base : Nat) (v : Value) (l0 : List UInt8) (hs : a.eval s = v) (hown : Own w base v l0) (d : Nat) (u : Value) (l : List UInt8) (hx : a.eval x = u) (h : Rd w d u l)
    (hb : l0.length + l.length ≤ 140737488355328) (hbase : base ≤ w.heap.size)
    (hK : ∀ v' w', AppPost w base v (l0 ++ l) v' w' → K (a.put o.dst v') w') : o.wp Tryd.prog a w K Q := by
  obtain ⟨v', w', hrun, h2, h3, h4⟩ := run_append_rd w base v l0 hown d u l h hb hbase
  unfold Oper.wp execOp
  simp only [ho, hty, resolve, invoke, builtin, Sem.run_bind, Sem.run_pure, Result.andThen_ok, List.map_toArray, List.map_cons, List.map_nil, hs, hx, hrun]
  exact hK v' w' ⟨h2, h3, h4⟩

theorem wpList_append_rd {w : World} {ops : Array Oper} {rest : List Oper} {o : Oper} {a : Act} {Q : Exit → Act → World → Prop} (hgd : o.guard = none) (s x : Operand)
    (ho : o.op = .call { callee := .builtin .append, args := #[s, x], argTypes := #[30, 30] }) (hty : o.type = 30)
    (base : Nat) (v : Value) (l0 : List UInt8) (hs : a.eval s = v) (hown : Own w base v l0) (d : Nat) (u : Value) (l : List UInt8) (hx : a.eval x = u) (h : Rd w d u l)
    (hb : l0.length + l.length ≤ 140737488355328) (hbase : base ≤ w.heap.size)
    (hK : ∀ v' w', AppPost w base v (l0 ++ l) v' w' → wpList Tryd.prog ops Q rest (a.put o.dst v') w') : wpList Tryd.prog ops Q (o :: rest) a w :=
  wpList_plain hgd fun _ hK' => wp_append_rd s x ho hty base v l0 hs hown d u l hx h hb hbase fun v' w' hp => hK' _ _ (hK v' w' hp)

end Go.Proofs.YtpaapjafnjipfaaDoor
