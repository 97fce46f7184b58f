/- OctA OctB OctNum OctC OctE OctH RowMem Forest OctI OctRef -/
import Derived.Test.YthmobcaidhgeaaaRows
import Derived.WalkSpells
import Derived.Laws.CopyOwn
import Derived.Deep.OwnRows
import Derived.Lib.Hide
import Derived.Deep.AppendLies
import Derived.Deep.Onto
import Derived.OpenShut
import Derived.Lib.IndexBytes
import Derived.WalkLawsBesides
set_option linter.unusedSimpArgs false
set_option linter.unusedVariables false
set_option maxRecDepth 100000
set_option maxHeartbeats 8000000
namespace Go.Proofs.Ythmobcaidhgeaaa
open Go.RowKit
theorem layS {α : Type} : (∀ (l : List α) (i : Nat) (a : α), l.toArray.setIfInBounds i a = (l.set i a).toArray) ∧ (∀ (x a : α) (l : List α), (x :: l).set 0 a = a :: l) ∧ (∀ (x a : α) (l : List α) (n : Nat), (x :: l).set (n + 1) a = x :: l.set n a) :=
  ⟨fun l i a => by simp, fun _ _ _ => rfl, fun _ _ _ _ => rfl⟩
theorem layG {α : Type} : (∀ (l : List α) (i : Nat), l.toArray[i]? = l[i]?) ∧ (∀ (a : α) (l : List α) (i : Nat), (a :: l)[i + 1]? = l[i]?) ∧ (∀ (a : α) (l : List α), (a :: l)[0]? = some a) :=
  ⟨fun l i => by simp, fun _ _ _ => rfl, fun _ _ => rfl⟩
theorem bAl {w : World} {o : Obj} : Below w.heap.size w (w.alloc o) := (Below.refl _ _).alloc (Nat.le_refl _) _
theorem hHd {p : Prop} (h : p) : Hid p := h
def byteV (b : UInt8) : Value := .int .u8 (b.toNat : Int)
def Blk (w : World) (g : Nat) (t : TypeId) (cs : Array Value) : Prop := w.heap[g]? = some (.cells cs t (0, 0))
section
variable {w w' : World} {g : Nat} {t : TypeId} {cs : Array Value}
theorem Blk.lt (h : Blk w g t cs) : g < w.heap.size := by
 rcases Nat.lt_or_ge g w.heap.size with hlt | hge
 ·exact hlt
 ·unfold Blk at h; rw [Array.getElem?_eq_none hge] at h; cases h
theorem Blk.cell (h : Blk w g t cs) (i : Nat) : w.cell? ⟨g, i, none⟩ = cs[i]? := cell_of_row w g i cs t (0, 0) h
theorem Blk.frozen (h : Blk w g t cs) (i : Nat) : w.frozen? ⟨g, i, none⟩ = false := by
 unfold Blk at h
 simp [World.frozen?, h]
theorem Blk.new (w : World) (t : TypeId) (cs : Array Value) : Blk (w.alloc (.cells cs t)) w.heap.size t cs := heap_alloc_new w _
theorem Blk.alloc (h : Blk w g t cs) (o : Obj) : Blk (w.alloc o) g t cs := (Below.heap_alloc w o g h.lt).trans h
theorem Blk.set_ (h : Blk w g t cs) (i : Nat) (u : Value) : Blk (w.setCell ⟨g, i, none⟩ u) g t (cs.setIfInBounds i u) := by
 unfold Blk at h ⊢
 simp [World.setCell, Array.getElem?_modify, h]
theorem Blk.far (h : Blk w g t cs) {p : Addr} (hp : g ≠ p.block) (u : Value) : Blk (w.setCell p u) g t cs := (Below.heap_setCell w p u g hp).trans h
theorem Blk.below {B : Nat} (h : Blk w g t cs) (hb : Below B w w') (hg : g < B) : Blk w' g t cs := (hb.block g hg).trans h
theorem Blk.grown {row : Option Nat} (h : Blk w g t cs) (hb : w.grownBy w' row) (hg : some g ≠ row) : Blk w' g t cs := (hb.block g h.lt hg).trans h
end
def Rd (w : World) (d : Nat) (v : Value) (l : List UInt8) : Prop :=
 ∃ A c, v = .slice A l.length c ∧ l.length ≤ c ∧ l.length ≤ 140737488355328 ∧
  (0 < l.length → ∃ off, A = some ⟨d, off, none⟩ ∧ ∀ j b, l[j]? = some b → w.cell? ⟨d, off + j, none⟩ = some (byteV b))
section
variable {w w' : World} {d g : Nat} {v : Value} {l : List UInt8}
theorem Rd.len (h : Rd w d v l) : l.length ≤ 140737488355328 := by
 obtain ⟨_, _, _, h1, h2, _⟩ := h; omega
theorem Rd.nil (w : World) (d : Nat) : Rd w d (.slice none 0 0) [] := ⟨none, 0, rfl, Nat.le_refl _, by simp, fun h => absurd h (by simp)⟩
theorem Rd.keep (h : Rd w d v l) (hk : ∀ o, w'.cell? ⟨d, o, none⟩ = w.cell? ⟨d, o, none⟩) : Rd w' d v l := by
 obtain ⟨A, c, rfl, h1, h2, h3⟩ := h
 refine ⟨A, c, rfl, h1, h2, fun hp => ?_⟩
 obtain ⟨off, rfl, hc⟩ := h3 hp
 exact ⟨off, rfl, fun j b hb => (hk _).trans (hc j b hb)⟩
theorem Rd.lt (h : Rd w d v l) (hl : 0 < l.length) : d < w.heap.size := by
 obtain ⟨A, c, rfl, h1, h2, h3⟩ := h
 obtain ⟨off, rfl, hc⟩ := h3 hl
 exact World.block_lt_of_cell? w _ (hc 0 _ (List.getElem?_eq_getElem hl))
theorem Rd.heap (h : Rd w d v l) (hk : w'.heap[d]? = w.heap[d]?) : Rd w' d v l := h.keep fun _ => World.cell?_of_block (w := w) hk
theorem Rd.heap' (h : Rd w d v l) (hk : d < w.heap.size → w'.heap[d]? = w.heap[d]?) : Rd w' d v l := by
 by_cases hl : 0 < l.length
 ·exact h.heap (hk (h.lt hl))
 ·obtain ⟨A, c, rfl, h1, h2, h3⟩ := h
  exact ⟨A, c, rfl, h1, h2, fun hp => absurd hp hl⟩
theorem Rd.grown (h : Rd w d v l) (hb : w.grownBy w' (some g)) (hd : d ≠ g) : Rd w' d v l := h.heap' fun hlt => hb.block d hlt (by simpa using hd)
theorem Rd.below {B : Nat} (h : Rd w d v l) (hb : Below B w w') (hd : d < B) : Rd w' d v l := h.heap (hb.block d hd)
theorem Rd.alloc (h : Rd w d v l) (o : Obj) : Rd (w.alloc o) d v l := h.heap' fun hlt => Below.heap_alloc w o d hlt
theorem Rd.setCell (h : Rd w d v l) {p : Addr} (hd : d ≠ p.block) (u : Value) : Rd (w.setCell p u) d v l := h.heap (Below.heap_setCell w p u d hd)
theorem Rd.block (h : Rd w d v l) (hl : l = []) (d' : Nat) : Rd w d' v l := by
 obtain ⟨A, c, rfl, h1, h2, _⟩ := h
 subst hl
 exact ⟨A, c, rfl, h1, h2, fun hp => absurd hp (by simp)⟩
end
section
variable {w w' : World} {d g g' : Nat} {l : List UInt8} {e : Int}
end
theorem cl3 {w : World} {g : Nat} {t : TypeId} {x0 x1 x2 : Value} (h : Blk w g t #[x0, x1, x2]) : w.cell? ⟨g, 0, none⟩ = some x0 ∧ w.cell? ⟨g, 1, none⟩ = some x1 ∧ w.cell? ⟨g, 2, none⟩ = some x2 := ⟨h.cell 0, h.cell 1, h.cell 2⟩
theorem cl6 {w : World} {g : Nat} {t : TypeId} {x0 x1 x2 x3 x4 x5 : Value} (h : Blk w g t #[x0, x1, x2, x3, x4, x5]) : w.cell? ⟨g, 0, none⟩ = some x0 ∧ w.cell? ⟨g, 1, none⟩ = some x1 ∧ w.cell? ⟨g, 2, none⟩ = some x2 ∧ w.cell? ⟨g, 3, none⟩ = some x3 ∧ w.cell? ⟨g, 4, none⟩ = some x4 ∧ w.cell? ⟨g, 5, none⟩ = some x5 := ⟨h.cell 0, h.cell 1, h.cell 2, h.cell 3, h.cell 4, h.cell 5⟩
theorem cl9 {w : World} {g : Nat} {t : TypeId} {x0 x1 x2 x3 x4 x5 x6 x7 x8 : Value} (h : Blk w g t #[x0, x1, x2, x3, x4, x5, x6, x7, x8]) : w.cell? ⟨g, 0, none⟩ = some x0 ∧ w.cell? ⟨g, 1, none⟩ = some x1 ∧ w.cell? ⟨g, 2, none⟩ = some x2 ∧ w.cell? ⟨g, 3, none⟩ = some x3 ∧ w.cell? ⟨g, 4, none⟩ = some x4 ∧ w.cell? ⟨g, 5, none⟩ = some x5 ∧ w.cell? ⟨g, 6, none⟩ = some x6 ∧ w.cell? ⟨g, 7, none⟩ = some x7 ∧ w.cell? ⟨g, 8, none⟩ = some x8 := ⟨h.cell 0, h.cell 1, h.cell 2, h.cell 3, h.cell 4, h.cell 5, h.cell 6, h.cell 7, h.cell 8⟩
section
variable {w : World} {d n k c : Nat} {A : Option Addr} {l : List UInt8}
theorem Rd.take (h : Rd w d (.slice A n c) l) (hk : k ≤ n) : Rd w d (.slice A k c) (l.take k) := by
 obtain ⟨A', c', hv, h1, h2, h3⟩ := h
 injection hv with e1 e2 e3
 subst e1 e2 e3
 have hl : (l.take k).length = k := by simp; omega
 refine ⟨A, c, by rw [hl], by omega, by omega, fun hp => ?_⟩
 obtain ⟨off, rfl, hc⟩ := h3 (by omega)
 exact ⟨off, rfl, fun j b hb => hc j b (by rw [List.getElem?_take] at hb; split at hb <;> simp_all)⟩
theorem Rd.drop (h : Rd w d (.slice A n c) l) (hk : k ≤ n) (_hne : ¬ c = k) : Rd w d (.slice (Option.map (fun x => x.add k) A) (n - k) (c - k)) (l.drop k) := by
 obtain ⟨A', c', hv, h1, h2, h3⟩ := h
 injection hv with e1 e2 e3
 subst e1 e2 e3
 have hl : (l.drop k).length = l.length - k := by simp
 refine ⟨_, _, by rw [hl], by omega, by omega, fun hp => ?_⟩
 obtain ⟨off, rfl, hc⟩ := h3 (by omega)
 refine ⟨off + k, ?_, fun j b hb => ?_⟩
 ·simp only [Option.map_some, Addr.add]
  by_cases h0 : k = 0 <;> simp [h0]
 ·have := hc (k + j) b (by rw [← hb, List.getElem?_drop])
  rwa [← Nat.add_assoc] at this
end
def nx (l : List UInt8) (e n : Int) : List UInt8 × List UInt8 × Int :=
 if e ≠ 0 then ([], l, e) else if n < 0 then ([], l, 1) else if (l.length : Int) < n then ([], l, 10) else (l.take n.toNat, l.drop n.toNat, 0)
def valB (l : List UInt8) : Nat := l.foldl (fun a b => a * 256 + b.toNat) 0
def Below64 (n : Nat) : Prop := n < 18446744073709551616
instance (n : Nat) : Decidable (Below64 n) := inferInstanceAs (Decidable (n < 18446744073709551616))
def nm (l : List UInt8) (e n : Int) : Nat × List UInt8 × Int :=
 if e = 0 ∧ ¬ (1 ≤ n ∧ n ≤ 8) then (0, l, 1) else (valB (nx l e n).1, (nx l e n).2.1, (nx l e n).2.2)
def Own (w : World) (base : Nat) (v : Value) (l : List UInt8) : Prop := w.ownsRow base 5 1 v l.length (l.map byteV)
section
variable {w w' : World} {base : Nat} {v : Value} {l : List UInt8}
theorem Own.nil (w : World) (base : Nat) : Own w base (.slice none 0 0) [] := World.ownsRow_nil w base 5 1
theorem Own.below (h : Own w base v l) (hb : Below w.heap.size w w') : Own w' base v l :=
 World.ownsRow.kept h ⟨hb.os, hb.tape, hb.output, hb.size, fun k hk _ => hb.block k hk⟩ (row := none) (by cases hv : v.ownBlock <;> simp)
theorem Own.made (w : World) (n : Nat) (b : UInt8) (hb : base ≤ w.heap.size) (hn : n ≤ 140737488355328) (cs : Array Value) (hcs : cs = ((List.replicate n b).map byteV).toArray) :
  Own (w.alloc (.cells cs 5)) base (.slice (some ⟨w.heap.size, 0, none⟩) n n) (List.replicate n b) := by
 subst hcs
 refine ⟨by simp, .inr ⟨w.heap.size, n, _, by simp, hb, heap_alloc_new w _, by simp, by unfold maxLen; omega, by simp, ?_⟩⟩
 simp only [Nat.mul_one]
 exact List.take_of_length_le (by simp)
end
def AppPost (w : World) (base : Nat) (v : Value) (l : List UInt8) (v' : Value) (w' : World) : Prop :=
 Own w' base v' l ∧ w.grownBy w' v.ownBlock ∧ (v'.ownBlock = v.ownBlock ∨ v'.ownBlock = some w.heap.size)
theorem AppPost.below {w w' : World} {base : Nat} {v v' : Value} {l l0 : List UInt8} (h : AppPost w base v l v' w') (hown : Own w base v l0) (hb : base ≤ w.heap.size) : Below base w w' :=
 (Below.refl _ _).grown h.2.1 hb fun k e => (World.ownsRow.lt hown k e).1
def RowK (k : Nat) (w : World) (d : Nat) (v : Value) (n : Nat) (xs : List Value) : Prop :=
 xs.length = n * k ∧ ∃ A c, v = .slice A n c ∧ n ≤ c ∧ (0 < n → d < w.heap.size ∧ ∃ off, A = some ⟨d, off, none⟩ ∧ ∀ j u, xs[j]? = some u → w.cell? ⟨d, off + j, none⟩ = some u)
section
variable {k : Nat} {w w' : World} {d : Nat} {v : Value} {n : Nat} {xs : List Value}
theorem RowK.shape (h : RowK k w d v n xs) : ∃ A c, v = .slice A n c := by obtain ⟨_, A, c, h, _⟩ := h; exact ⟨A, c, h⟩
theorem RowK.nil (k : Nat) (w : World) (d : Nat) : RowK k w d (.slice none 0 0) 0 [] := ⟨by simp, none, 0, rfl, Nat.le_refl _, fun h => absurd h (by simp)⟩
theorem RowK.below (h : RowK k w d v n xs) (hb : Below w.heap.size w w') : RowK k w' d v n xs := by
 obtain ⟨h0, A, c, rfl, h1, h2⟩ := h
 refine ⟨h0, A, c, rfl, h1, fun hp => ?_⟩
 obtain ⟨hlt, off, rfl, hc⟩ := h2 hp
 exact ⟨Nat.lt_of_lt_of_le hlt hb.size, off, rfl, fun j x hx => (hb.cell (p := ⟨d, off + j, none⟩) hlt).trans (hc j x hx)⟩
theorem RowK.grown {row : Option Nat} (h : RowK k w d v n xs) (hb : w.grownBy w' row) (hd : 0 < n → some d ≠ row) : RowK k w' d v n xs := by
 obtain ⟨h0, A, c, rfl, h1, h2⟩ := h
 refine ⟨h0, A, c, rfl, h1, fun hp => ?_⟩
 obtain ⟨hlt, off, rfl, hc⟩ := h2 hp
 exact ⟨Nat.lt_of_lt_of_le hlt hb.size, off, rfl, fun j x hx => (World.cell?_of_block (a := ⟨d, off + j, none⟩) (hb.block d hlt (hd hp))).trans (hc j x hx)⟩
theorem RowK.at {A : Option Addr} {m c : Nat} (h : RowK k w d (.slice A m c) n xs) (h0 : 0 < n) : m = n ∧ m ≤ c ∧ ∃ off, A = some ⟨d, off, none⟩ ∧ d < w.heap.size ∧ ∀ j u, xs[j]? = some u → w.cell? ⟨d, off + j, none⟩ = some u := by
 obtain ⟨_, A', c', he, h1, h2⟩ := h
 injection he with e1 e2 e3
 subst e1 e2 e3
 obtain ⟨hlt, off, e, hc⟩ := h2 h0
 exact ⟨rfl, h1, off, e, hlt, hc⟩
end
def OwnK (e : TypeId) (k : Nat) (w : World) (base : Nat) (v : Value) (n : Nat) (xs : List Value) : Prop := w.ownsRow base e k v n xs
section
variable {w w' : World} {e : TypeId} {k base : Nat} {v : Value} {n : Nat} {xs : List Value}
theorem OwnK.nil (e : TypeId) (k : Nat) (w : World) (base : Nat) : OwnK e k w base (.slice none 0 0) 0 [] := World.ownsRow_nil w base e k
theorem OwnK.below (h : OwnK e k w base v n xs) (hb : Below w.heap.size w w') : OwnK e k w' base v n xs :=
 World.ownsRow.kept h ⟨hb.os, hb.tape, hb.output, hb.size, fun k hk _ => hb.block k hk⟩ (row := none) (by cases hv : v.ownBlock <;> simp)
theorem OwnK.lt (h : OwnK e k w base v n xs) : ∀ b, v.ownBlock = some b → base ≤ b ∧ b < w.heap.size := fun b hb => World.ownsRow.lt h b hb
theorem OwnK.grown {row : Option Nat} (h : OwnK e k w base v n xs) (hg : w.grownBy w' row) (hne : v.ownBlock = none ∨ v.ownBlock ≠ row) : OwnK e k w' base v n xs := World.ownsRow.kept h hg hne
theorem OwnK.mono {base' : Nat} (h : OwnK e k w base v n xs) (hb : base' ≤ base) : OwnK e k w base' v n xs := World.ownsRow.mono h hb
theorem OwnK.row (h : OwnK e k w base v n xs) : ∃ d, RowK k w d v n xs ∧ (0 < n → base ≤ d) := by
 have hh := h
 have hlt := h.lt
 rcases h.2 with ⟨rfl, h0⟩ | ⟨g, cap, cur, rfl, hb, hg, hnc, hcm, hcs, ht⟩
 ·have hx : xs.length = n * k := h.1
  exact ⟨0, ⟨hx, none, 0, by rw [h0], by omega, fun h => absurd h (by omega)⟩, fun h => absurd h (by omega)⟩
 ·refine ⟨g, ⟨h.1, _, cap, rfl, hnc, fun h0 => ⟨(hlt g rfl).2, 0, rfl, fun j u hj => ?_⟩⟩, fun _ => (hlt g rfl).1⟩
  have hjl : j < xs.length := (List.getElem?_eq_some_iff.1 hj).1
  have hx : xs.length = n * k := h.1
  rw [World.ownsRow.cellAt hh (0 + j) (by omega), Nat.zero_add, hj]
theorem OwnK.shape (h : OwnK e k w base v n xs) : ∃ A c, v = .slice A n c := by
 rcases h.2 with ⟨rfl, h0⟩ | ⟨g, cap, cur, rfl, _⟩
 ·exact ⟨none, 0, by rw [h0]⟩
 ·exact ⟨_, _, rfl⟩
end
def AppK (e : TypeId) (k : Nat) (w : World) (base : Nat) (v : Value) (n : Nat) (xs : List Value) (v' : Value) (w' : World) : Prop :=
 OwnK e k w' base v' n xs ∧ w.grownBy w' v.ownBlock ∧ (v'.ownBlock = v.ownBlock ∨ v'.ownBlock = some w.heap.size) ∧ ∃ g c, v' = .slice (some ⟨g, 0, none⟩) n c
theorem AppK.below {e : TypeId} {k : Nat} {w w' : World} {base : Nat} {v v' : Value} {n m : Nat} {xs ys : List Value} (h : AppK e k w base v n xs v' w') (hown : OwnK e k w base v m ys) (hb : base ≤ w.heap.size) : Below base w w' :=
 (Below.refl _ _).grown h.2.1 hb fun b e => (hown.lt b e).1
theorem run_append_k {P : Program} {ts e : TypeId} {z : Value} {k bytes : Nat} (hu : P.underlying ts = some (.slice e))
  (hinfo : (P.info? e).map (fun i => (i.zero, i.size, i.bytes)) = some (some z, k, bytes)) (hz : z.cells.size = k) (hk : 0 < k) (w : World) (base : Nat) (v : Value) (n : Nat) (xs : List Value) (hown : OwnK e k w base v n xs)
  (g : Nat) (ys : List Value) (hblk : Blk w g e ys.toArray) (hys : ys.length = k) (hone : ∀ u ∈ ys, u.oneCell' = true)
  (hb : (n + 1) * bytes ≤ 140737488355328) (hlen : n + 1 ≤ 140737488355328) (hbase : base ≤ w.heap.size) :
  ∃ v' w', (Builtin.append_ #[ts, ts] ts #[v, .slice (some ⟨g, 0, none⟩) 1 1]).run P w = .ok v' w' ∧ AppK e k w base v (n + 1) (xs ++ ys) v' w' := by
 obtain ⟨i, hi, hz0, hz1, hz2⟩ := info_parts hinfo
 obtain ⟨v', w', hrun, k1, k2, _, k3⟩ := run_append_own_at (P := P) (w := w) base ts ts e i z k bytes hu hi hz0 hz1 hz2 hz hk v n xs hown
  ⟨g, 0, none⟩ 1 1 ys (by omega) (fun j u hj => by
   have e1 : (⟨g, 0, none⟩ : Addr).add j = ⟨g, j, none⟩ := by unfold Addr.add; split <;> simp_all
   rw [e1, hblk.cell]
   simpa using hj) hone (by unfold maxLen; omega) hb hbase
 refine ⟨v', w', hrun, k1, k2, k3, ?_⟩
 rcases k1.2 with ⟨_, h0⟩ | ⟨g', cap, _, rfl, _⟩
 ·omega
 ·exact ⟨g', cap, rfl⟩
theorem wp_append_k {P : Program} {ts e : TypeId} {z : Value} {k bytes : Nat} (hu : P.underlying ts = some (.slice e))
  (hinfo : (P.info? e).map (fun i => (i.zero, i.size, i.bytes)) = some (some z, k, bytes)) (hz : z.cells.size = k) (hk : 0 < k) {w : World} {o : Oper} {a : Act} {K : Act → World → Prop} {Q : Exit → Act → World → Prop} (s x : Operand)
  (ho : o.op = .call { callee := .builtin .append, args := #[s, x], argTypes := #[ts, ts] }) (hty : o.type = ts)
  (base : Nat) (v : Value) (n : Nat) (xs : List Value) (hs : a.eval s = v) (hown : OwnK e k w base v n xs) (g : Nat) (hx : a.eval x = .slice (some ⟨g, 0, none⟩) 1 1)
  (ys : List Value) (hblk : Blk w g e ys.toArray) (hys : ys.length = k) (hone : ∀ u ∈ ys, u.oneCell' = true)
  (hb : (n + 1) * bytes ≤ 140737488355328) (hlen : n + 1 ≤ 140737488355328) (hbase : base ≤ w.heap.size)
  (hK : ∀ v' w', AppK e k w base v (n + 1) (xs ++ ys) v' w' → K (a.put o.dst v') w') : o.wp P a w K Q := by
 obtain ⟨v', w', hrun, h2⟩ := run_append_k hu hinfo hz hk w base v n xs hown g ys hblk hys hone hb hlen hbase
 unfold Oper.wp execOp
 simp only [ho, hty, resolve, invoke, builtin, Sem.run_bind, Sem.run_pure, Result.andThen_ok, List.map_toArray, List.map_cons, List.map_nil, hs, hx, hrun]
 exact hK v' w' h2
theorem wpList_append_k {P : Program} {ts e : TypeId} {z : Value} {k bytes : Nat} (hu : P.underlying ts = some (.slice e))
  (hinfo : (P.info? e).map (fun i => (i.zero, i.size, i.bytes)) = some (some z, k, bytes)) (hz : z.cells.size = k) (hk : 0 < k) {w : World} {ops : Array Oper} {rest : List Oper} {o : Oper} {a : Act} {Q : Exit → Act → World → Prop} (hgd : o.guard = none) (s x : Operand)
  (ho : o.op = .call { callee := .builtin .append, args := #[s, x], argTypes := #[ts, ts] }) (hty : o.type = ts)
  (base : Nat) (v : Value) (n : Nat) (xs : List Value) (hs : a.eval s = v) (hown : OwnK e k w base v n xs) (g : Nat) (hx : a.eval x = .slice (some ⟨g, 0, none⟩) 1 1)
  (ys : List Value) (hblk : Blk w g e ys.toArray) (hys : ys.length = k) (hone : ∀ u ∈ ys, u.oneCell' = true)
  (hb : (n + 1) * bytes ≤ 140737488355328) (hlen : n + 1 ≤ 140737488355328) (hbase : base ≤ w.heap.size)
  (hK : ∀ v' w', AppK e k w base v (n + 1) (xs ++ ys) v' w' → wpList P ops Q rest (a.put o.dst v') w') : wpList P ops Q (o :: rest) a w :=
 wpList_plain hgd fun _ hK' => wp_append_k hu hinfo hz hk s x ho hty base v n xs hs hown g hx ys hblk hys hone hb hlen hbase fun v' w' hp => hK' _ _ (hK v' w' hp)
inductive Fr (α : Type) where
 | nil
 | cons (a : α) (k r : Fr α)
namespace Fr
variable {α : Type}
def len : Fr α → Nat
 | nil => 0
 | cons _ _ r => r.len + 1
def app : Fr α → Fr α → Fr α
 | nil, g => g
 | cons a k r, g => cons a k (r.app g)
def drop : Nat → Fr α → Fr α
 | 0, f => f
 | _ + 1, nil => nil
 | n + 1, cons _ _ r => drop n r
def take : Nat → Fr α → Fr α
 | 0, _ => nil
 | _ + 1, nil => nil
 | n + 1, cons a k r => cons a k (take n r)
def get? : Fr α → Nat → Option (α × Fr α)
 | nil, _ => none
 | cons a k _, 0 => some (a, k)
 | cons _ _ r, n + 1 => r.get? n
def size : Fr α → Nat
 | nil => 0
 | cons _ k r => k.size + r.size + 1
theorem len_cons (a : α) (k r : Fr α) : (cons a k r).len = r.len + 1 := rfl
theorem len_app (f g : Fr α) : (f.app g).len = f.len + g.len := by
 induction f with
 | nil => simp [app, len]
 | cons a k r _ ih => simp only [app, len, ih]; omega
theorem app_nil (f : Fr α) : f.app nil = f := by
 induction f with
 | nil => rfl
 | cons a k r _ ih => simp only [app, ih]
theorem app_assoc (f g h : Fr α) : (f.app g).app h = f.app (g.app h) := by
 induction f with
 | nil => rfl
 | cons a k r _ ih => simp only [app, ih]
theorem len_size (f : Fr α) : f.len ≤ f.size := by
 induction f with
 | nil => exact Nat.le_refl _
 | cons a k r _ ih => simp only [len, size]; omega
theorem size_app (f g : Fr α) : (f.app g).size = f.size + g.size := by
 induction f with
 | nil => simp [app, size]
 | cons a k r _ ih => simp only [app, size, ih]; omega
theorem take_app_drop (n : Nat) : ∀ f : Fr α, (take n f).app (drop n f) = f := by
 induction n with
 | zero => intro f; rfl
 | succ n ih =>
  intro f
  cases f with
  | nil => rfl
  | cons a k r => simp only [take, drop, app, ih]
theorem take_all (f : Fr α) : take f.len f = f := by
 induction f with
 | nil => rfl
 | cons a k r _ ih => simp only [len, take, ih]
theorem drop_all (f : Fr α) : drop f.len f = nil := by
 induction f with
 | nil => rfl
 | cons a k r _ ih => simp only [len, drop, ih]
theorem len_drop (n : Nat) : ∀ f : Fr α, (drop n f).len = f.len - n := by
 induction n with
 | zero => intro f; rfl
 | succ n ih =>
  intro f
  cases f with
  | nil => simp [drop, len]
  | cons a k r => simp only [drop, len, ih]; omega
theorem len_take (n : Nat) : ∀ f : Fr α, n ≤ f.len → (take n f).len = n := by
 induction n with
 | zero => intro f _; rfl
 | succ n ih =>
  intro f h
  cases f with
  | nil => simp [len] at h
  | cons a k r => simp only [take, len]; rw [ih r (by simp only [len] at h; omega)]
theorem get_some {f : Fr α} : ∀ {n : Nat}, n < f.len → ∃ a k, f.get? n = some (a, k) := by
 induction f with
 | nil => intro n h; simp [len] at h
 | cons a k r _ ih =>
  intro n h
  cases n with
  | zero => exact ⟨a, k, rfl⟩
  | succ n => exact ih (by simp only [len] at h; omega)
theorem get_lt {f : Fr α} : ∀ {n : Nat} {x : α × Fr α}, f.get? n = some x → n < f.len := by
 induction f with
 | nil => intro n x h; cases h
 | cons a k r _ ih =>
  intro n x h
  cases n with
  | zero => simp [len]
  | succ n => have := ih h; simp only [len]; omega
theorem get_drop {f : Fr α} : ∀ {n : Nat} {a : α} {k : Fr α}, f.get? n = some (a, k) → drop n f = cons a k (drop (n + 1) f) ∧ take (n + 1) f = (take n f).app (cons a k nil) := by
 induction f with
 | nil => intro n a k h; cases h
 | cons b q r _ ih =>
  intro n a k h
  cases n with
  | zero => injection h with h; injection h with h1 h2; subst h1 h2; exact ⟨rfl, rfl⟩
  | succ n =>
   obtain ⟨h1, h2⟩ := ih h
   refine ⟨h1, ?_⟩
   show cons b q (take (n + 1) r) = cons b q ((take n r).app _)
   rw [h2]
theorem get_app_left {f g : Fr α} : ∀ {n : Nat}, n < f.len → (f.app g).get? n = f.get? n := by
 induction f with
 | nil => intro n h; simp [len] at h
 | cons a k r _ ih =>
  intro n h
  cases n with
  | zero => rfl
  | succ n => exact ih (by simp only [len] at h; omega)
theorem get_app_right {f g : Fr α} : ∀ (n : Nat), (f.app g).get? (f.len + n) = g.get? n := by
 induction f with
 | nil => intro n; simp [len, app]
 | cons a k r _ ih =>
  intro n
  rw [len_cons, show r.len + 1 + n = (r.len + n) + 1 by omega]
  exact ih n
theorem size_get {f : Fr α} : ∀ {n : Nat} {a : α} {k : Fr α}, f.get? n = some (a, k) → k.size < f.size := by
 induction f with
 | nil => intro n a k h; cases h
 | cons b q r _ ih =>
  intro n a k h
  cases n with
  | zero => injection h with h; injection h with h1 h2; subst h1 h2; simp only [size]; omega
  | succ n => have := ih h; simp only [size]; omega
theorem ext {f : Fr α} : ∀ {g : Fr α}, f.len = g.len → (∀ n, n < f.len → f.get? n = g.get? n) → f = g := by
 induction f with
 | nil =>
  intro g h _
  cases g with
  | nil => rfl
  | cons => simp [len] at h
 | cons a k r _ ih =>
  intro g h hg
  cases g with
  | nil => simp [len] at h
  | cons b q s =>
   have h0 := hg 0 (by simp [len])
   injection h0 with h0
   injection h0 with h1 h2
   rw [h1, h2, ih (g := s) (by simp only [len] at h; omega) (fun n hn => hg (n + 1) (by simp only [len]; omega))]
def eqb [DecidableEq α] : Fr α → Fr α → Bool
 | nil, nil => true
 | cons a k r, cons b q s => decide (a = b) && eqb k q && eqb r s
 | _, _ => false
theorem eqb_iff [DecidableEq α] {f : Fr α} : ∀ {g : Fr α}, eqb f g = true ↔ f = g := by
 induction f with
 | nil =>
  intro g
  cases g with
  | nil => simp [eqb]
  | cons => simp [eqb]
 | cons a k r ihk ihr =>
  intro g
  cases g with
  | nil => simp [eqb]
  | cons b q s => simp [eqb, ihk, ihr, and_assoc]
instance [DecidableEq α] : DecidableEq (Fr α) := fun _ _ => decidable_of_iff _ eqb_iff
def kidsAll (P : Fr α → Prop) : Fr α → Prop
 | nil => True
 | cons _ k r => P k ∧ kidsAll P r
theorem kidsAll_get {P : Fr α → Prop} {f : Fr α} : ∀ {n : Nat} {a : α} {k : Fr α}, kidsAll P f → f.get? n = some (a, k) → P k := by
 induction f with
 | nil => intro n a k _ h; cases h
 | cons b q r _ ih =>
  intro n a k hP h
  cases n with
  | zero => injection h with h; injection h with h1 h2; subst h1 h2; exact hP.1
  | succ n => exact ih hP.2 h
theorem byKids {P : Fr α → Prop} (h : ∀ f, (∀ n a k, f.get? n = some (a, k) → P k) → P f) (f : Fr α) : P f := by
 have both : ∀ f, P f ∧ kidsAll P f := by
  intro f
  induction f with
  | nil => exact ⟨h _ (fun n a k e => by cases e), trivial⟩
  | cons a k r ihk ihr =>
   have hk : kidsAll P (cons a k r) := ⟨ihk.1, ihr.2⟩
   exact ⟨h _ (fun n b q e => kidsAll_get hk e), hk⟩
 exact (both f).1
end Fr
abbrev RdOf (α : Type) := World → (Nat → Prop) → List Value → α → Prop
def FrAt {α : Type} (D : RdOf α) (K p : Nat) (w : World) (S N : Nat → Prop) : Fr α → Nat → Nat → Prop
 | .nil, _, _ => True
 | .cons a k r, b, o => (∃ cs : List Value, cs.length = K ∧ (∀ i u, cs[i]? = some u → w.cell? ⟨b, o + i, none⟩ = some u) ∧ D w N cs a ∧
   ∃ A c, cs[p]? = some (.slice A k.len c) ∧ k.len ≤ c ∧ (0 < k.len → ∃ b' o', A = some ⟨b', o', none⟩ ∧ S b' ∧ FrAt D K p w S N k b' o')) ∧ FrAt D K p w S N r b (o + K)
def FrV {α : Type} (D : RdOf α) (K p : Nat) (w : World) (S N : Nat → Prop) (v : Value) (f : Fr α) : Prop :=
 ∃ A c, v = .slice A f.len c ∧ f.len ≤ c ∧ (0 < f.len → ∃ b o, A = some ⟨b, o, none⟩ ∧ S b ∧ FrAt D K p w S N f b o)
def FrN {α : Type} (D : RdOf α) (K p : Nat) (w : World) (S N : Nat → Prop) (cs : List Value) (a : α) (k : Fr α) : Prop :=
 cs.length = K ∧ D w N cs a ∧ ∃ v, cs[p]? = some v ∧ FrV D K p w S N v k
def StayD {α : Type} (D : RdOf α) : Prop := ∀ (w w' : World) (N N' : Nat → Prop) cs a, (∀ g, N g → w'.heap[g]? = w.heap[g]?) → (∀ g, N g → N' g) → D w N cs a → D w' N' cs a
def OneD {α : Type} (D : RdOf α) : Prop := ∀ w N cs a, D w N cs a → ∀ u ∈ cs, u.oneCell' = true
section
variable {α : Type} {D : RdOf α} {K p : Nat} {w w' : World} {S S' N N' : Nat → Prop}
theorem FrAt.kept (hD : StayD D) (hk : ∀ g, S g → w'.heap[g]? = w.heap[g]?) (hS : ∀ g, S g → S' g) (hn : ∀ g, N g → w'.heap[g]? = w.heap[g]?) (hN : ∀ g, N g → N' g) :
  ∀ {f : Fr α} {b o : Nat}, S b → FrAt D K p w S N f b o → FrAt D K p w' S' N' f b o := by
 intro f
 induction f with
 | nil => intro b o _ _; trivial
 | cons a k r ihk ihr =>
  intro b o hb ⟨⟨cs, h1, h2, h3, A, c, h4, h5, h6⟩, h7⟩
  have hc : ∀ i, w'.cell? ⟨b, i, none⟩ = w.cell? ⟨b, i, none⟩ := fun i => World.cell?_of_block (w := w) (hk b hb)
  refine ⟨⟨cs, h1, fun i u hu => (hc _).trans (h2 i u hu), hD _ _ _ _ _ _ hn hN h3, A, c, h4, h5, fun h0 => ?_⟩, ihr hb h7⟩
  obtain ⟨b', o', h8, h9, h10⟩ := h6 h0
  exact ⟨b', o', h8, hS _ h9, ihk h9 h10⟩
theorem FrV.kept {v : Value} {f : Fr α} (hD : StayD D) (h : FrV D K p w S N v f) (hk : ∀ g, S g → w'.heap[g]? = w.heap[g]?) (hS : ∀ g, S g → S' g) (hn : ∀ g, N g → w'.heap[g]? = w.heap[g]?) (hN : ∀ g, N g → N' g) : FrV D K p w' S' N' v f := by
 obtain ⟨A, c, rfl, h1, h2⟩ := h
 refine ⟨A, c, rfl, h1, fun h0 => ?_⟩
 obtain ⟨b, o, h3, h4, h5⟩ := h2 h0
 exact ⟨b, o, h3, hS _ h4, h5.kept hD hk hS hn hN h4⟩
theorem FrN.kept {cs : List Value} {a : α} {k : Fr α} (hD : StayD D) (h : FrN D K p w S N cs a k) (hk : ∀ g, S g → w'.heap[g]? = w.heap[g]?) (hS : ∀ g, S g → S' g) (hn : ∀ g, N g → w'.heap[g]? = w.heap[g]?) (hN : ∀ g, N g → N' g) : FrN D K p w' S' N' cs a k := by
 obtain ⟨h1, h2, v, h3, h4⟩ := h
 exact ⟨h1, hD _ _ _ _ _ _ hn hN h2, v, h3, h4.kept hD hk hS hn hN⟩
theorem FrV.mono {v : Value} {f : Fr α} (hD : StayD D) (h : FrV D K p w S N v f) (hS : ∀ g, S g → S' g) (hN : ∀ g, N g → N' g) : FrV D K p w S' N' v f := h.kept hD (fun _ _ => rfl) hS (fun _ _ => rfl) hN
theorem FrN.mono {cs : List Value} {a : α} {k : Fr α} (hD : StayD D) (h : FrN D K p w S N cs a k) (hS : ∀ g, S g → S' g) (hN : ∀ g, N g → N' g) : FrN D K p w S' N' cs a k := h.kept hD (fun _ _ => rfl) hS (fun _ _ => rfl) hN
theorem FrV.empty (w : World) (S N : Nat → Prop) : FrV D K p w S N (.slice none 0 0) .nil := ⟨none, 0, rfl, Nat.le_refl _, fun h => absurd h (by simp [Fr.len])⟩
theorem FrV.shape {v : Value} {f : Fr α} (h : FrV D K p w S N v f) : ∃ A c, v = .slice A f.len c := by
 obtain ⟨A, c, e, _⟩ := h
 exact ⟨A, c, e⟩
theorem FrAt.drop (n : Nat) : ∀ {f : Fr α} {b o : Nat}, FrAt D K p w S N f b o → FrAt D K p w S N (Fr.drop n f) b (o + n * K) := by
 induction n with
 | zero => intro f b o h; simpa [Fr.drop] using h
 | succ n ih =>
  intro f b o h
  cases f with
  | nil => trivial
  | cons a k r =>
   have h7 := ih h.2
   have e : o + K + n * K = o + (n + 1) * K := by rw [Nat.add_mul]; omega
   rw [e] at h7
   exact h7
theorem FrV.at {v : Value} {f : Fr α} (h : FrV D K p w S N v f) {n : Nat} {a : α} {k : Fr α} (hn : f.get? n = some (a, k)) :
  ∃ b o c cs, v = .slice (some ⟨b, o, none⟩) f.len c ∧ f.len ≤ c ∧ S b ∧ FrN D K p w S N cs a k ∧ ∀ i u, cs[i]? = some u → w.cell? ⟨b, o + n * K + i, none⟩ = some u := by
 have hlt := Fr.get_lt hn
 obtain ⟨A, c, rfl, h1, h2⟩ := h
 obtain ⟨b, o, rfl, h3, h4⟩ := h2 (by omega)
 have h7 := h4.drop n
 rw [(Fr.get_drop hn).1] at h7
 obtain ⟨⟨cs, g1, g2, g3, A', c', g4, g5, g6⟩, _⟩ := h7
 exact ⟨b, o, c, cs, rfl, h1, h3, ⟨g1, g3, _, g4, A', c', rfl, g5, g6⟩, g2⟩
end
def rowG {α : Type} (D : RdOf α) (K p : Nat) (w : World) (S N : Nat → Prop) : List Value → Fr α → Prop
 | xs, .nil => xs = []
 | xs, .cons a k r => ∃ cs ys, xs = cs ++ ys ∧ FrN D K p w S N cs a k ∧ rowG D K p w S N ys r
section
variable {α : Type} {D : RdOf α} {K p : Nat} {w w' : World} {S S' N N' : Nat → Prop}
theorem rowG.kept (hD : StayD D) (hk : ∀ g, S g → w'.heap[g]? = w.heap[g]?) (hS : ∀ g, S g → S' g) (hn : ∀ g, N g → w'.heap[g]? = w.heap[g]?) (hN : ∀ g, N g → N' g) : ∀ {f : Fr α} {xs : List Value}, rowG D K p w S N xs f → rowG D K p w' S' N' xs f := by
 intro f
 induction f with
 | nil => intro xs h; exact h
 | cons a k r _ ih =>
  intro xs h
  obtain ⟨cs, ys, rfl, h1, h2⟩ := h
  exact ⟨cs, ys, rfl, h1.kept hD hk hS hn hN, ih h2⟩
theorem rowG.len : ∀ {f : Fr α} {xs : List Value}, rowG D K p w S N xs f → xs.length = f.len * K := by
 intro f
 induction f with
 | nil => intro xs h; rw [show xs = [] from h]; simp [Fr.len]
 | cons a k r _ ih =>
  intro xs h
  obtain ⟨cs, ys, rfl, h1, h2⟩ := h
  rw [List.length_append, h1.1, ih h2, Fr.len_cons, Nat.add_mul]
  omega
theorem rowG.app {g : Fr α} {ys : List Value} (h2 : rowG D K p w S N ys g) : ∀ {f : Fr α} {xs : List Value}, rowG D K p w S N xs f → rowG D K p w S N (xs ++ ys) (f.app g) := by
 intro f
 induction f with
 | nil => intro xs h; rw [show xs = [] from h]; exact h2
 | cons a k r _ ih =>
  intro xs h
  obtain ⟨cs, zs, rfl, g1, g2⟩ := h
  exact ⟨cs, zs ++ ys, by rw [List.append_assoc], g1, ih g2⟩
theorem rowG.one {a : α} {k : Fr α} {cs : List Value} (h : FrN D K p w S N cs a k) : rowG D K p w S N cs (.cons a k .nil) := ⟨cs, [], by simp, h, rfl⟩
theorem rowG.oneCell (hone : OneD D) : ∀ {f : Fr α} {xs : List Value}, rowG D K p w S N xs f → ∀ u ∈ xs, u.oneCell' = true := by
 intro f
 induction f with
 | nil => intro xs h u hu; rw [show xs = [] from h] at hu; cases hu
 | cons a k r _ ih =>
  intro xs h u hu
  obtain ⟨cs, ys, rfl, h1, h2⟩ := h
  rcases List.mem_append.1 hu with hu | hu
  ·exact hone _ _ _ _ h1.2.1 u hu
  ·exact ih h2 u hu
theorem rowG.at {b : Nat} : ∀ {f : Fr α} {xs : List Value} {o : Nat}, rowG D K p w S N xs f → (∀ j u, xs[j]? = some u → w.cell? ⟨b, o + j, none⟩ = some u) → FrAt D K p w S N f b o := by
 intro f
 induction f with
 | nil => intro xs o _ _; trivial
 | cons a k r _ ih =>
  intro xs o h hc
  obtain ⟨cs, ys, rfl, ⟨g1, g2, v, g3, A, c, rfl, g4, g5⟩, g6⟩ := h
  refine ⟨⟨cs, g1, fun i u hu => hc i u ?_, g2, A, c, g3, g4, g5⟩, ih g6 (fun j u hj => ?_)⟩
  ·rw [List.getElem?_append_left (List.getElem?_eq_some_iff.1 hu).1]; exact hu
  ·have h := hc (K + j) u (by rw [List.getElem?_append_right (by omega), g1, show K + j - K = j by omega]; exact hj)
   rwa [show o + (K + j) = o + K + j by omega] at h
theorem FrAt.row {b : Nat} : ∀ {f : Fr α} {o : Nat}, FrAt D K p w S N f b o → ∃ xs, rowG D K p w S N xs f ∧ ∀ j u, xs[j]? = some u → w.cell? ⟨b, o + j, none⟩ = some u := by
 intro f
 induction f with
 | nil => intro o _; exact ⟨[], rfl, fun j u h => by simp at h⟩
 | cons a k r _ ih =>
  intro o ⟨⟨cs, h1, h2, h3, A, c, h4, h5, h6⟩, h7⟩
  obtain ⟨ys, h8, h9⟩ := ih h7
  refine ⟨cs ++ ys, ⟨cs, ys, rfl, ⟨h1, h3, _, h4, A, c, rfl, h5, h6⟩, h8⟩, fun j u hj => ?_⟩
  by_cases hj0 : j < K
  ·rw [List.getElem?_append_left (by omega)] at hj
   exact h2 j u hj
  ·rw [List.getElem?_append_right (by omega), h1] at hj
   have := h9 (j - K) u hj
   rwa [show o + K + (j - K) = o + j by omega] at this
end
def OwnG {α : Type} (D : RdOf α) (e : TypeId) (K p : Nat) (w : World) (base : Nat) (S N : Nat → Prop) (v : Value) (f : Fr α) : Prop :=
 (∀ g, S g → g < w.heap.size ∧ some g ≠ v.ownBlock) ∧ (∀ g, N g → g < w.heap.size ∧ some g ≠ v.ownBlock) ∧ ∃ xs, OwnK e K w base v f.len xs ∧ rowG D K p w S N xs f
section
variable {α : Type} {D : RdOf α} {e : TypeId} {K p : Nat} {w w' : World} {base : Nat} {S S' N N' : Nat → Prop} {v : Value} {f : Fr α}
theorem OwnG.nil (w : World) (base : Nat) : OwnG D e K p w base (fun _ => False) (fun _ => False) (.slice none 0 0) (.nil : Fr α) := ⟨fun _ h => h.elim, fun _ h => h.elim, [], OwnK.nil _ _ _ _, rfl⟩
theorem OwnG.nilS (w : World) (base : Nat) (hS : ∀ g, S g → g < w.heap.size) (hN : ∀ g, N g → g < w.heap.size) : OwnG D e K p w base S N (.slice none 0 0) (.nil : Fr α) :=
 ⟨fun g h => ⟨hS g h, by intro h; cases h⟩, fun g h => ⟨hN g h, by intro h; cases h⟩, [], OwnK.nil _ _ _ _, rfl⟩
theorem OwnG.below (hD : StayD D) (h : OwnG D e K p w base S N v f) (hb : Below w.heap.size w w') : OwnG D e K p w' base S N v f := by
 obtain ⟨hS, hN, xs, h1, h2⟩ := h
 exact ⟨fun g hg => ⟨Nat.lt_of_lt_of_le (hS g hg).1 hb.size, (hS g hg).2⟩, fun g hg => ⟨Nat.lt_of_lt_of_le (hN g hg).1 hb.size, (hN g hg).2⟩, xs, h1.below hb,
  h2.kept hD (fun g hg => hb.block g (hS g hg).1) (fun g hg => hg) (fun g hg => hb.block g (hN g hg).1) (fun g hg => hg)⟩
theorem OwnG.widen (hD : StayD D) (h : OwnG D e K p w base S N v f) (hS : ∀ g, S g → S' g) (hN : ∀ g, N g → N' g) (hS2 : ∀ g, S' g → g < w.heap.size ∧ some g ≠ v.ownBlock) (hN2 : ∀ g, N' g → g < w.heap.size ∧ some g ≠ v.ownBlock) : OwnG D e K p w base S' N' v f := by
 obtain ⟨_, _, xs, h1, h2⟩ := h
 exact ⟨hS2, hN2, xs, h1, h2.kept hD (fun _ _ => rfl) hS (fun _ _ => rfl) hN⟩
theorem OwnG.lt (h : OwnG D e K p w base S N v f) : ∀ k, v.ownBlock = some k → base ≤ k ∧ k < w.heap.size := by
 obtain ⟨_, _, xs, h1, _⟩ := h
 exact h1.lt
theorem OwnG.shape (h : OwnG D e K p w base S N v f) : ∃ A c, v = .slice A f.len c := by
 obtain ⟨_, _, xs, h1, _⟩ := h
 exact h1.shape
theorem OwnG.frv (hD : StayD D) (h : OwnG D e K p w base S N v f) : FrV D K p w (fun g => S g ∨ v.ownBlock = some g) N v f := by
 obtain ⟨hS, hN, xs, h1, h2⟩ := h
 have h2' : rowG D K p w (fun g => S g ∨ v.ownBlock = some g) N xs f := h2.kept hD (fun _ _ => rfl) (fun g hg => .inl hg) (fun _ _ => rfl) (fun _ hg => hg)
 have hh := h1
 rcases h1.2 with ⟨rfl, h0⟩ | ⟨g, cap, cur, rfl, hb, hg, hnc, hcm, hcs, ht⟩
 ·exact ⟨none, 0, by rw [h0], by omega, fun h => absurd h (by omega)⟩
 ·refine ⟨_, cap, rfl, hnc, fun h0 => ⟨g, 0, rfl, .inr rfl, h2'.at (fun j u hj => ?_)⟩⟩
  have hjl : j < xs.length := (List.getElem?_eq_some_iff.1 hj).1
  have hxl : xs.length = f.len * K := h1.1
  rw [World.ownsRow.cellAt hh (0 + j) (by omega), Nat.zero_add, hj]
theorem OwnG.app (hD : StayD D) {xs ys : List Value} {v' : Value} {g : Fr α} (hown : OwnG D e K p w base S N v f) (hxr : rowG D K p w S N xs f)
  (h1 : OwnK e K w' base v' (f.app g).len (xs ++ ys)) (h2 : w.grownBy w' v.ownBlock) (h3 : v'.ownBlock = v.ownBlock ∨ v'.ownBlock = some w.heap.size) (hy : rowG D K p w S N ys g) : OwnG D e K p w' base S N v' (f.app g) := by
 obtain ⟨hS, hN, _⟩ := hown
 have sep : ∀ k, k < w.heap.size → some k ≠ v.ownBlock → some k ≠ v'.ownBlock := by
  intro k hk hne
  rcases h3 with h | h
  ·rw [h]; exact hne
  ·rw [h]; intro h'; injection h' with h'; omega
 exact ⟨fun k hk => ⟨Nat.lt_of_lt_of_le (hS k hk).1 h2.size, sep k (hS k hk).1 (hS k hk).2⟩, fun k hk => ⟨Nat.lt_of_lt_of_le (hN k hk).1 h2.size, sep k (hN k hk).1 (hN k hk).2⟩, xs ++ ys, h1,
  (rowG.app hy hxr).kept hD (fun k hk => h2.block k (hS k hk).1 (hS k hk).2) (fun _ h => h) (fun k hk => h2.block k (hN k hk).1 (hN k hk).2) (fun _ h => h)⟩
end
def RdN (k : IntKind) (w : World) (d : Nat) (v : Value) (xs : List Nat) : Prop :=
 ∃ A c, v = .slice A xs.length c ∧ xs.length ≤ c ∧ (0 < xs.length → d < w.heap.size ∧ ∃ off, A = some ⟨d, off, none⟩ ∧ ∀ j x : Nat, xs[j]? = some x → w.cell? ⟨d, off + j, none⟩ = some (.int k (x : Int)))
theorem RdN.below {k : IntKind} {w w' : World} {d : Nat} {v : Value} {xs : List Nat} (h : RdN k w d v xs) (hb : Below w.heap.size w w') : RdN k w' d v xs := by
 obtain ⟨A, c, rfl, h1, h2⟩ := h
 refine ⟨A, c, rfl, h1, fun hp => ?_⟩
 obtain ⟨hlt, off, rfl, hc⟩ := h2 hp
 exact ⟨Nat.lt_of_lt_of_le hlt hb.size, off, rfl, fun j x hx => (hb.cell (p := ⟨d, off + j, none⟩) hlt).trans (hc j x hx)⟩
theorem RdN.grown {k : IntKind} {w w' : World} {d g : Nat} {v : Value} {xs : List Nat} (h : RdN k w d v xs) (hb : w.grownBy w' (some g)) (hd : 0 < xs.length → d ≠ g) : RdN k w' d v xs := by
 obtain ⟨A, c, rfl, h1, h2⟩ := h
 refine ⟨A, c, rfl, h1, fun hp => ?_⟩
 obtain ⟨hlt, off, rfl, hc⟩ := h2 hp
 refine ⟨Nat.lt_of_lt_of_le hlt hb.size, off, rfl, fun j x hx => hb.cell (hc j x hx) ?_⟩
 intro e
 injection e with e
 exact hd hp e
section
variable {w : World} {d n c : Nat} {A : Option Addr} {l : List UInt8}
theorem Rd.cap (h : Rd w d (.slice A n c) l) : l.length = n ∧ n ≤ c := by
 obtain ⟨A', c', e, h1, _⟩ := h
 injection e with _ e2 e3
 omega
end
def txt (l : List UInt8) : ByteArray := ⟨l.toArray⟩
theorem txt_data (l : List UInt8) : (txt l).data.toList = l := by simp [txt]
theorem txt_ext {a b : ByteArray} (h : a.data.toList = b.data.toList) : a = b := by
 cases a; cases b
 simp only [ByteArray.mk.injEq]
 exact Array.toList_inj.1 h
theorem txt_toList (l : List UInt8) : (txt l).toList = l := by rw [Lib.toList_data, txt_data]
end Go.Proofs.Ythmobcaidhgeaaa
