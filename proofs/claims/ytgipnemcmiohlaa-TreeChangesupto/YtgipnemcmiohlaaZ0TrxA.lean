/- What the laws of package tree want of TrxA. -/
import Derived.Test.YtgipnemcmiohlaaZ0Law09F
import Derived.Deep.QuietTactic
import Derived.BigQuiet
import Derived.Sort.Grow
import Derived.Lib.Bytealg
import Derived.Lib.Strings
import Derived.Lib.Slices
import Derived.Lib.Walk
import Derived.IntWalk
namespace Go.Proofs.Ytgipnemcmiohlaa
open Go.RowKit
set_option linter.unusedSimpArgs false
set_option linter.unusedVariables false
/-- A world in which all that was there is as it was. -/
structure After (w : World) where
  w' : World
  h : Below w.heap.size w w'
instance (w : World) : Inhabited (After w) := ⟨⟨w, Below.refl _ _⟩⟩
theorem After.cell {w : World} (p : After w) {b o : Nat} {v : Value} (hb : b < w.heap.size) (h : w.cell? ⟨b, o, none⟩ = some v) : p.w'.cell? ⟨b, o, none⟩ = some v := (p.h.cell (p := ⟨b, o, none⟩) hb).trans h
theorem After.blk {w : World} (p : After w) {g o : Nat} {t : TypeId} {cs : Array Value} {v : Value} (h : Blk w g t cs) (hv : cs[o]? = some v) : p.w'.cell? ⟨g, o, none⟩ = some v := p.cell h.lt ((h.cell o).trans hv)
/-- What a call leaves that makes memory, and changes none. -/
def Grw (v : Value) (w : World) (r : Ending) (w' : World) : Prop := r = .returned v ∧ ∃ q os, w' = Go.Sort.grow (w.drewN q) os
theorem below_grow {w : World} (q : Nat) (os : Array Obj) : Below w.heap.size w (Go.Sort.grow (w.drewN q) os) :=
  ⟨rfl, rfl, rfl, by rw [Go.Sort.size_grow]; exact Nat.le_add_right _ _, fun k hk => Go.Sort.heap_grow_old (w.drewN q) os hk⟩
theorem Grw.ans {v : Value} {w : World} {r : Ending} {w' : World} (h : Grw v w r w') : Ans9 v w r w' := by
  obtain ⟨h1, q, os, rfl⟩ := h
  exact ⟨h1, below_grow q os⟩
theorem Grw.alloc {w : World} (o : Obj) : w.alloc o = Go.Sort.grow (w.drewN 0) #[o] := Go.Sort.alloc_eq_grow w o
def set6o (w : World) (b o : Nat) (x0 x1 x2 x3 x4 x5 : Value) : World := (((((w.setCell ⟨b, o, none⟩ x0).setCell ⟨b, o + 1, none⟩ x1).setCell ⟨b, o + 2, none⟩ x2).setCell ⟨b, o + 3, none⟩ x3).setCell ⟨b, o + 4, none⟩ x4).setCell ⟨b, o + 5, none⟩ x5
theorem set6o_below {B : Nat} {w : World} {b o : Nat} {x0 x1 x2 x3 x4 x5 : Value} (h : B ≤ b) : Below B w (set6o w b o x0 x1 x2 x3 x4 x5) :=
  ((((((Below.refl B w).setCell (p := ⟨b, o, none⟩) h x0).setCell (p := ⟨b, o + 1, none⟩) h x1).setCell (p := ⟨b, o + 2, none⟩) h x2).setCell (p := ⟨b, o + 3, none⟩) h x3).setCell (p := ⟨b, o + 4, none⟩) h x4).setCell (p := ⟨b, o + 5, none⟩) h x5
theorem set6o_other {w : World} {b o g : Nat} {x0 x1 x2 x3 x4 x5 : Value} (h : g ≠ b) : (set6o w b o x0 x1 x2 x3 x4 x5).heap[g]? = w.heap[g]? := by
  unfold set6o
  rw [Below.heap_setCell _ _ _ _ h, Below.heap_setCell _ _ _ _ h, Below.heap_setCell _ _ _ _ h, Below.heap_setCell _ _ _ _ h, Below.heap_setCell _ _ _ _ h, Below.heap_setCell _ _ _ _ h]
theorem set6o_size {w : World} {b o : Nat} {x0 x1 x2 x3 x4 x5 : Value} : (set6o w b o x0 x1 x2 x3 x4 x5).heap.size = w.heap.size := by simp [set6o, World.setCell]
theorem set_mid6 (l k r : List Value) (j : Nat) (u : Value) (h : j < k.length) : (l ++ (k ++ r)).set (l.length + j) u = l ++ (k.set j u ++ r) := by
  rw [List.set_append_right _ _ (by omega), Nat.add_sub_cancel_left, List.set_append_left _ _ h]
theorem OwnK.set6o {w : World} {base b n c o : Nat} {xs1 xs2 : List Value} {y0 y1 y2 y3 y4 y5 : Value} (h : OwnK 27 6 w base (.slice (some ⟨b, 0, none⟩) n c) n (xs1 ++ ([y0, y1, y2, y3, y4, y5] ++ xs2))) (ho : xs1.length = o) (x0 x1 x2 x3 x4 x5 : Value) :
    OwnK 27 6 (set6o w b o x0 x1 x2 x3 x4 x5) base (.slice (some ⟨b, 0, none⟩) n c) n (xs1 ++ ([x0, x1, x2, x3, x4, x5] ++ xs2)) := by
  subst ho
  have a0 := (World.ownsRow.stored h (xs1.length + 0) x0).1
  rw [set_mid6 _ _ _ _ _ (by simp)] at a0
  have a1 := (World.ownsRow.stored a0 (xs1.length + 1) x1).1
  rw [set_mid6 _ _ _ _ _ (by simp)] at a1
  have a2 := (World.ownsRow.stored a1 (xs1.length + 2) x2).1
  rw [set_mid6 _ _ _ _ _ (by simp)] at a2
  have a3 := (World.ownsRow.stored a2 (xs1.length + 3) x3).1
  rw [set_mid6 _ _ _ _ _ (by simp)] at a3
  have a4 := (World.ownsRow.stored a3 (xs1.length + 4) x4).1
  rw [set_mid6 _ _ _ _ _ (by simp)] at a4
  have a5 := (World.ownsRow.stored a4 (xs1.length + 5) x5).1
  rw [set_mid6 _ _ _ _ _ (by simp)] at a5
  exact a5
/-- The cells xs are the nodes f, six each, each one's kids a row of the call's own; F: these rows' blocks. -/
def OwnT (w : World) (base : Nat) : NdF → List Value → List Nat → Prop
  | .nil, xs, F => xs = [] ∧ F = []
  | .cons a k r, xs, F => ∃ (ys zs : List Value) (F0 F2 : List Nat) (v : Value), xs = ndC a v ++ ys ∧ F = (v.ownBlock.toList ++ F0) ++ F2 ∧
      OwnK 27 6 w base v k.len zs ∧ OwnT w base k zs F0 ∧ OwnT w base r ys F2
/-- The slice v is a row of the call's own, of nodes k. -/
def OwnU (w : World) (base : Nat) (v : Value) (k : NdF) (F : List Nat) : Prop := ∃ zs F0, F = v.ownBlock.toList ++ F0 ∧ OwnK 27 6 w base v k.len zs ∧ OwnT w base k zs F0
section
variable {w w' : World} {base base' : Nat} {f g : NdF} {xs ys : List Value} {F G : List Nat}
theorem OwnT.cons_iff {a : NdD} {k r : NdF} : OwnT w base (.cons a k r) xs F ↔ ∃ v ys F1 F2, xs = ndC a v ++ ys ∧ F = F1 ++ F2 ∧ OwnU w base v k F1 ∧ OwnT w base r ys F2 := by
  constructor
  · intro ⟨ys, zs, F0, F2, v, h1, h2, h6, h7, h8⟩
    exact ⟨v, ys, _, F2, h1, h2, ⟨zs, F0, rfl, h6, h7⟩, h8⟩
  · intro ⟨v, ys, F1, F2, h1, h2, ⟨zs, F0, h9, h6, h7⟩, h8⟩
    exact ⟨ys, zs, F0, F2, v, h1, by rw [h2, h9], h6, h7, h8⟩
theorem OwnK.keep {e : TypeId} {k n : Nat} {v : Value} (h : OwnK e k w base v n xs) (hk : ∀ g, v.ownBlock = some g → w'.heap[g]? = w.heap[g]?) : OwnK e k w' base v n xs := by
  refine ⟨h.1, ?_⟩
  rcases h.2 with ⟨rfl, h0⟩ | ⟨g, cap, cur, rfl, hb, hg, hrest⟩
  · exact .inl ⟨rfl, h0⟩
  · exact .inr ⟨g, cap, cur, rfl, hb, (hk g rfl).trans hg, hrest⟩
theorem OwnT.keep (hb : base' ≤ base) : ∀ {f : NdF} {xs : List Value} {F : List Nat}, (∀ g, g ∈ F → w'.heap[g]? = w.heap[g]?) → OwnT w base f xs F → OwnT w' base' f xs F := by
  intro f
  induction f with
  | nil => intro xs F _ h; exact h
  | cons a k r ihk ihr =>
    intro xs F hF ⟨ys, zs, F0, F2, v, h1, h2, h6, h7, h8⟩
    subst h2
    exact ⟨ys, zs, F0, F2, v, h1, rfl, (h6.keep (fun g hg => hF g (by simp [hg]))).mono hb, ihk (fun g hg => hF g (by simp [hg])) h7, ihr (fun g hg => hF g (by simp [hg])) h8⟩
theorem OwnU.keep {v : Value} {k : NdF} (h : OwnU w base v k F) (hF : ∀ g, g ∈ F → w'.heap[g]? = w.heap[g]?) (hb : base' ≤ base) : OwnU w' base' v k F := by
  obtain ⟨zs, F0, rfl, h1, h2⟩ := h
  exact ⟨zs, F0, rfl, (h1.keep (fun g hg => hF g (by simp [hg]))).mono hb, h2.keep hb (fun g hg => hF g (by simp [hg]))⟩
theorem OwnK.fresh {e : TypeId} {k n : Nat} {v : Value} (h : OwnK e k w base v n xs) {g : Nat} (hg : v.ownBlock = some g) : Fresh9 base w g := by
  rcases h.2 with ⟨rfl, h0⟩ | ⟨g', cap, cur, rfl, hb, hg', hrest⟩
  · cases hg
  · injection hg with hg
    subst hg
    exact ⟨hb, cur, _, hg'⟩
theorem OwnT.fresh : ∀ {f : NdF} {xs : List Value} {F : List Nat}, OwnT w base f xs F → ∀ g, g ∈ F → Fresh9 base w g := by
  intro f
  induction f with
  | nil => intro xs F h g hg; rw [h.2] at hg; cases hg
  | cons a k r ihk ihr =>
    intro xs F ⟨ys, zs, F0, F2, v, h1, h2, h6, h7, h8⟩ g hg
    subst h2
    simp only [List.mem_append, Option.mem_toList] at hg
    rcases hg with (hg | hg) | hg
    · exact h6.fresh hg
    · exact ihk h7 g hg
    · exact ihr h8 g hg
theorem OwnU.fresh {v : Value} {k : NdF} (h : OwnU w base v k F) : ∀ g, g ∈ F → Fresh9 base w g := by
  obtain ⟨zs, F0, rfl, h1, h2⟩ := h
  intro g hg
  simp only [List.mem_append, Option.mem_toList] at hg
  rcases hg with hg | hg
  · exact h1.fresh hg
  · exact h2.fresh g hg
theorem OwnT.below (h : OwnT w base f xs F) (hb : Below w.heap.size w w') : OwnT w' base f xs F := h.keep (Nat.le_refl _) (fun g hg => hb.block g (h.fresh g hg).lt)
theorem OwnU.below {v : Value} {k : NdF} (h : OwnU w base v k F) (hb : Below w.heap.size w w') : OwnU w' base v k F := h.keep (fun g hg => hb.block g (h.fresh g hg).lt) (Nat.le_refl _)
/-- Read as nodes. -/
theorem OwnK.frv {S : Nat → Prop} {v : Value} {k : NdF} (h : OwnK 27 6 w base v k.len xs) (hr : rowG NdA 6 5 w S noB xs k) (hS : ∀ g, v.ownBlock = some g → S g) : FrV NdA 6 5 w S noB v k := by
  have hh := h
  rcases h.2 with ⟨rfl, h0⟩ | ⟨g, cap, cur, rfl, hb, hg, hnc, hcm, hcs, ht⟩
  · exact ⟨none, 0, by rw [h0], by omega, fun h => absurd h (by omega)⟩
  · refine ⟨_, cap, rfl, hnc, fun h0 => ⟨g, 0, rfl, hS g rfl, hr.at (fun j u hj => ?_)⟩⟩
    have hjl : j < xs.length := (List.getElem?_eq_some_iff.1 hj).1
    have hxl : xs.length = k.len * 6 := h.1
    rw [World.ownsRow.cellAt hh (0 + j) (by omega), Nat.zero_add, hj]
theorem OwnK.aligned {n : Nat} {v : Value} (h : OwnK 27 6 w base v n xs) {a : NdD} : ∀ b o m c, (ndC a v)[5]? = some (.slice (some ⟨b, o, none⟩) m c) → o % 6 = 0 := by
  intro b o m c e
  have e2 : v = .slice (some ⟨b, o, none⟩) m c := by simpa using e
  rcases h.2 with ⟨rfl, h0⟩ | ⟨g, cap, cur, rfl, hrest⟩
  · cases e2
  · injection e2 with e2
    injection e2 with e2
    injection e2 with _ e3
    rw [← e3]
theorem OwnT.row {S : Nat → Prop} : ∀ {f : NdF} {xs : List Value} {F : List Nat}, (∀ g, g ∈ F → S g) → OwnT w base f xs F → rowG NdA 6 5 w S noB xs f := by
  intro f
  induction f with
  | nil => intro xs F _ h; exact h.1
  | cons a k r ihk ihr =>
    intro xs F hF ⟨ys, zs, F0, F2, v, h1, h2, h6, h7, h8⟩
    subst h2
    have hv : v.oneCell' = true := by obtain ⟨A, c, rfl⟩ := h6.shape; rfl
    exact ⟨ndC a v, ys, h1, ⟨rfl, ⟨⟨v, rfl, hv⟩, h6.aligned⟩, v, rfl, h6.frv (ihk (fun g hg => hF g (by simp [hg])) h7) (fun g hg => hF g (by simp [hg]))⟩, ihr (fun g hg => hF g (by simp [hg])) h8⟩
theorem OwnU.frv {v : Value} {k : NdF} (h : OwnU w base v k F) : FrV NdA 6 5 w (fun g => g ∈ F) noB v k := by
  obtain ⟨zs, F0, rfl, h1, h2⟩ := h
  exact h1.frv (h2.row (fun g hg => by simp [hg])) (fun g hg => by simp [hg])
theorem OwnU.shape {v : Value} {k : NdF} (h : OwnU w base v k F) : ∃ A c, v = .slice A k.len c := by
  obtain ⟨zs, F0, rfl, h1, h2⟩ := h
  exact h1.shape
theorem OwnU.new {v : Value} {a : NdD} {k : NdF} (h : OwnU w base v k F) : NewT base w (ndC a v) (a, k) := by
  refine ⟨fun g => g ∈ F, h.fresh, rfl, ⟨⟨v, rfl, ?_⟩, ?_⟩, v, rfl, h.frv⟩
  · obtain ⟨A, c, rfl⟩ := h.shape; rfl
  · obtain ⟨zs, F0, rfl, h1, h2⟩ := h
    exact h1.aligned
theorem OwnU.lies {v : Value} {a : NdD} {k : NdF} (h : OwnU w base v k F) : LieN w (ndC a v) (a, k) := (h.new (a := a)).lies
theorem OwnT.app (h2 : OwnT w base g ys G) : ∀ {f : NdF} {xs : List Value} {F : List Nat}, OwnT w base f xs F → OwnT w base (f.app g) (xs ++ ys) (F ++ G) := by
  intro f
  induction f with
  | nil => intro xs F h; rw [h.1, h.2]; exact h2
  | cons a k r ihk ihr =>
    intro xs F ⟨zs, us, F0, F2, v, h1, h2, h6, h7, h8⟩
    subst h1 h2
    exact ⟨zs ++ ys, us, F0, F2 ++ G, v, by simp, by simp, h6, h7, ihr h8⟩
theorem OwnT.one {a : NdD} {k : NdF} {v : Value} (h : OwnU w base v k F) : OwnT w base (.cons a k .nil) (ndC a v) F := OwnT.cons_iff.2 ⟨v, [], F, [], by simp, by simp, h, rfl, rfl⟩
theorem OwnT.split (n : Nat) : ∀ {f : NdF} {xs : List Value} {F : List Nat}, OwnT w base f xs F → ∃ xs1 xs2 F1 F2, xs = xs1 ++ xs2 ∧ F = F1 ++ F2 ∧ OwnT w base (Fr.take n f) xs1 F1 ∧ OwnT w base (Fr.drop n f) xs2 F2 := by
  induction n with
  | zero => intro f xs F h; exact ⟨[], xs, [], F, rfl, rfl, by cases f <;> exact ⟨rfl, rfl⟩, by cases f <;> exact h⟩
  | succ n ih =>
    intro f xs F h
    cases f with
    | nil => exact ⟨[], xs, [], F, rfl, rfl, ⟨rfl, rfl⟩, h⟩
    | cons a k r =>
      obtain ⟨v, ys, F1, F2, rfl, rfl, h1, h2⟩ := OwnT.cons_iff.1 h
      obtain ⟨ys1, ys2, G1, G2, rfl, rfl, h3, h4⟩ := ih h2
      exact ⟨ndC a v ++ ys1, ys2, F1 ++ G1, G2, by simp, by simp, OwnT.cons_iff.2 ⟨v, ys1, F1, G1, rfl, rfl, h1, h3⟩, h4⟩
theorem OwnT.len (h : OwnT w base f xs F) : xs.length = f.len * 6 := (h.row (S := fun g => g ∈ F) (fun _ h => h)).len
/-- The node at a place, between the others. -/
theorem OwnT.at (h : OwnT w base f xs F) {i : Nat} {a : NdD} {k : NdF} (hy : f.get? i = some (a, k)) : ∃ xs1 v xs2 F1 Fk F2, xs = xs1 ++ (ndC a v ++ xs2) ∧ F = F1 ++ (Fk ++ F2) ∧ xs1.length = i * 6 ∧ OwnT w base (Fr.take i f) xs1 F1 ∧ OwnU w base v k Fk ∧ OwnT w base (Fr.drop (i + 1) f) xs2 F2 := by
  obtain ⟨xs1, xs2, F1, F2, rfl, rfl, h1, h2⟩ := h.split i
  rw [(Fr.get_drop hy).1] at h2
  obtain ⟨v, ys, G1, G2, rfl, rfl, h3, h4⟩ := OwnT.cons_iff.1 h2
  exact ⟨xs1, v, ys, F1, G1, G2, rfl, rfl, by rw [h1.len, Fr.len_take _ _ (by have := Fr.get_lt hy; omega)], h1, h3, h4⟩
/-- A row of which one is another. -/
def updF (i : Nat) (y : Nd) (f : NdF) : NdF := (Fr.take i f).app (.cons y.1 y.2 (Fr.drop (i + 1) f))
theorem updF_len {i : Nat} {y : Nd} {f : NdF} (h : i < f.len) : (updF i y f).len = f.len := by
  unfold updF
  rw [Fr.len_app, Fr.len_take _ _ (by omega)]
  simp only [Fr.len, Fr.len_drop]
  omega
theorem OwnT.upd {i : Nat} {a : NdD} {k : NdF} {v : Value} {xs1 xs2 : List Value} {F1 F2 Fk : List Nat} (h1 : OwnT w base (Fr.take i f) xs1 F1) (h2 : OwnU w base v k Fk) (h3 : OwnT w base (Fr.drop (i + 1) f) xs2 F2) : OwnT w base (updF i (a, k) f) (xs1 ++ (ndC a v ++ xs2)) (F1 ++ (Fk ++ F2)) :=
  OwnT.app (OwnT.cons_iff.2 ⟨v, xs2, Fk, F2, rfl, rfl, h2, h3⟩) h1
end
/-- Below base as it was; and all that was there, but for the blocks F. -/
def Keeps (base : Nat) (F : List Nat) (w w' : World) : Prop := Below base w w' ∧ ∀ g, g < w.heap.size → g ∉ F → w'.heap[g]? = w.heap[g]?
theorem Keeps.refl (base : Nat) (F : List Nat) (w : World) : Keeps base F w w := ⟨Below.refl _ _, fun _ _ _ => rfl⟩
theorem Keeps.trans {base : Nat} {F G : List Nat} {a b c : World} (h : Keeps base F a b) (k : Keeps base G b c) (hG : ∀ g, g ∈ G → g ∈ F ∨ a.heap.size ≤ g) : Keeps base F a c :=
  ⟨h.1.trans k.1, fun g hg hF => (k.2 g (Nat.lt_of_lt_of_le hg h.1.size) (fun hm => by rcases hG g hm with h' | h'; exact hF h'; omega)).trans (h.2 g hg hF)⟩
theorem Keeps.of_below {base : Nat} {F : List Nat} {w w' : World} (h : Below w.heap.size w w') (hb : base ≤ w.heap.size) : Keeps base F w w' := ⟨h.mono hb, fun g hg _ => h.block g hg⟩
theorem Keeps.sub {base : Nat} {F G : List Nat} {w w' : World} (h : Keeps base F w w') (hs : ∀ g, g ∈ F → g ∈ G) : Keeps base G w w' := ⟨h.1, fun g hg hn => h.2 g hg (fun hm => hn (hs g hm))⟩
end Go.Proofs.Ytgipnemcmiohlaa
namespace Go.Proofs.Ytgipnemcmiohlaa
open Go.RowKit
set_option linter.unusedSimpArgs false
set_option linter.unusedVariables false
set_option maxHeartbeats 1000000 in
set_option maxRecDepth 100000 in
theorem bcmp_any (a b : ByteArray) (w : World) :
    Calls Try.prog 53 #[.string a, .string b] w fun e w' => e = .returned (.int .i64 (Lib.compareBytes a.data.toList b.data.toList)) ∧ w = w' := by
  go_enter Try.func53, Try.ntmps53
  go_wp2
  rw [run_callFunc_extern Try.func58 (by kernel_rfl) (by kernel_rfl) (by kernel_rfl) (e := Extern.BytealgCompare.compare) (by kernel_rfl), Lib.run_compareString]
  simp only [Result.andThen]
  rw [Oper.upon_value]
  go_wp2
  go_ret
  exact ⟨rfl, rfl⟩
set_option maxHeartbeats 1000000 in
theorem scmp_any (a b : ByteArray) (w : World) :
    Calls Try.prog 45 #[.string a, .string b] w fun e w' => e = .returned (.int .i64 (Lib.compareBytes a.data.toList b.data.toList)) ∧ w = w' := by
  go_enter Try.func45, Try.ntmps45
  go_wp2_with (go_at_call 53; refine (bcmp_any _ _ _).mono ?_; rintro e w' ⟨rfl, rfl⟩)
  go_ret
  exact ⟨rfl, rfl⟩
/-- The order of texts, as a number. -/
def cmpS (s t : Stp) : Int := if Lib.compareBytes s.1 t.1 ≠ 0 then Lib.compareBytes s.1 t.1 else Lib.compareBytes s.2 t.2
theorem cmpB_iff : ∀ (a b : List UInt8), (Lib.compareBytes a b < 0 ↔ ltY a b = true) ∧ (Lib.compareBytes a b = 0 ↔ a = b) := by
  intro a
  induction a with
  | nil =>
    intro b
    cases b with
    | nil => simp [Lib.compareBytes, ltB_irrefl]
    | cons y b => simp [Lib.compareBytes]; rfl
  | cons x a ih =>
    intro b
    cases b with
    | nil => simp [Lib.compareBytes, ltB_nil]
    | cons y b =>
      rw [ltB_cons]
      unfold Lib.compareBytes
      simp only [UInt8.lt_iff_toNat_lt]
      by_cases h1 : x.toNat < y.toNat
      · rw [if_pos h1]
        have h2 : x ≠ y := fun e => by subst e; omega
        simp [h1, h2]
      · rw [if_neg h1]
        by_cases h2 : y.toNat < x.toNat
        · rw [if_pos h2]
          have h3 : x ≠ y := fun e => by subst e; omega
          simp [h1, h3]
        · rw [if_neg h2]
          have h3 : x = y := UInt8.toNat_inj.1 (by omega)
          subst h3
          simp [ih b]
theorem cmpS_lt (s t : Stp) : cmpS s t < 0 ↔ lessS s t = true := by
  obtain ⟨h1, h2⟩ := cmpB_iff s.1 t.1
  obtain ⟨h3, h4⟩ := cmpB_iff s.2 t.2
  rw [lessS_iff]
  unfold cmpS
  split
  · rename_i h
    rw [h1]
    have : s.1 ≠ t.1 := fun e => h (h2.2 e)
    simp [this]
  · rename_i h
    have e : s.1 = t.1 := h2.1 (by simpa using h)
    rw [h3, e]
    simp [ltB_irrefl]
theorem cmpS_decide (s t : Stp) : decide (cmpS s t < 0) = lessS s t := by
  cases h : lessS s t with
  | true => exact decide_eq_true ((cmpS_lt s t).2 h)
  | false => exact decide_eq_false (fun e => by rw [cmpS_lt, h] at e; cases e)
set_option maxHeartbeats 1000000 in
set_option maxRecDepth 100000 in
theorem or_any (x y : Int) (g : Nat) (w : World) (hg : Blk w g 3 #[.int .i64 x, .int .i64 y]) :
    Calls Try.prog 44 #[.slice (some ⟨g, 0, none⟩) 2 2] w fun e w' => e = .returned (.int .i64 (if x ≠ 0 then x else y)) ∧ w = w' := by
  have q0 := (hg.cell 0).trans rfl
  have q1 := (hg.cell 1).trans rfl
  clear hg
  by_cases h : x = 0
  · have e : (if x ≠ 0 then x else y) = y := by simp [h]
    have HE := Lib.hid e
    clear e
    subst h
    by_cases h2 : y = 0
    · subst h2
      go_enter Try.func44, Try.ntmps44
      go_wp2
      refine wp_loop_rounds 3 ?_
      rw [rounds_succ]
      go_wp2
      rw [rounds_succ]
      go_wp2
      rw [rounds_succ]
      go_wp2
      go_ret
      exact ⟨rfl, rfl⟩
    · have b1 : (y == 0) = false := beq_eq_false_iff_ne.2 h2
      have b2 : (y != 0) = true := by simp [h2]
      go_enter Try.func44, Try.ntmps44
      go_wp2
      refine wp_loop_rounds 2 ?_
      rw [rounds_succ]
      go_wp2
      rw [rounds_succ]
      go_wp2
      go_ret
      first | exact ⟨rfl, rfl⟩ | exact ⟨by rw [HE.out], rfl⟩ | exact ⟨by rw [HE.out]; rfl, rfl⟩
  · have e : (if x ≠ 0 then x else y) = x := by simp [h]
    have HE := Lib.hid e
    have b1 : (x == 0) = false := beq_eq_false_iff_ne.2 h
    have b2 : (x != 0) = true := by simp [h]
    clear e
    go_enter Try.func44, Try.ntmps44
    go_wp2
    refine wp_loop_rounds 1 ?_
    rw [rounds_succ]
    go_wp2
    go_ret
    first | exact ⟨rfl, rfl⟩ | exact ⟨by rw [HE.out], rfl⟩ | exact ⟨by rw [HE.out]; rfl, rfl⟩
theorem Blk.newA {w : World} {g : Nat} (h : w.heap.size = g) (t : TypeId) (cs : Array Value) : Blk (w.alloc (.cells cs t)) g t cs := by subst h; exact Blk.new w t cs
theorem drew_is (w : World) : w.drew = w.drewN 1 := rfl
theorem drewN_grow (w : World) (os : Array Obj) (n : Nat) : (Go.Sort.grow w os).drewN n = Go.Sort.grow (w.drewN n) os := rfl
set_option maxHeartbeats 1000000 in
set_option maxRecDepth 100000 in
theorem order_any (a b : NdD) (u v : Value) (w : World) (hu : u.oneCell' = true) (hv : v.oneCell' = true) :
    Calls Try.prog 33 #[.agg #[.string (txt a.name), .string (txt a.key), .int .i64 a.kind, .int .u64 (a.num : Int), .string (txt a.text), u], .agg #[.string (txt b.name), .string (txt b.key), .int .i64 b.kind, .int .u64 (b.num : Int), .string (txt b.text), v]] w (Grw (.int .i64 (cmpS (stp a) (stp b))) w) := by
  have h1 : Blk ((w.alloc (.cells #[.string (txt a.name), .string (txt a.key), .int .i64 a.kind, .int .u64 (a.num : Int), .string (txt a.text), u] 27)).alloc (.cells #[.string (txt b.name), .string (txt b.key), .int .i64 b.kind, .int .u64 (b.num : Int), .string (txt b.text), v] 27)).drew w.heap.size 27 #[.string (txt a.name), .string (txt a.key), .int .i64 a.kind, .int .u64 (a.num : Int), .string (txt a.text), u] := (Blk.new w 27 #[.string (txt a.name), .string (txt a.key), .int .i64 a.kind, .int .u64 (a.num : Int), .string (txt a.text), u]).alloc _
  have h2 : Blk ((w.alloc (.cells #[.string (txt a.name), .string (txt a.key), .int .i64 a.kind, .int .u64 (a.num : Int), .string (txt a.text), u] 27)).alloc (.cells #[.string (txt b.name), .string (txt b.key), .int .i64 b.kind, .int .u64 (b.num : Int), .string (txt b.text), v] 27)).drew (w.heap.size + 1) 27 #[.string (txt b.name), .string (txt b.key), .int .i64 b.kind, .int .u64 (b.num : Int), .string (txt b.text), v] := Blk.newA (by simp) _ _
  have H1 := Lib.hid (And.intro h1 h2)
  have c1 : Lib.compareBytes (txt a.name).data.toList (txt b.name).data.toList = Lib.compareBytes a.name b.name := by rfl
  have c2 : Lib.compareBytes (txt a.key).data.toList (txt b.key).data.toList = Lib.compareBytes a.key b.key := by rfl
  obtain ⟨x, hx⟩ : ∃ x, x = Lib.compareBytes a.name b.name := ⟨_, rfl⟩
  obtain ⟨y, hy⟩ : ∃ y, y = Lib.compareBytes a.key b.key := ⟨_, rfl⟩
  rw [← hx] at c1
  rw [← hy] at c2
  have HC1 := Lib.hid c1
  have HC2 := Lib.hid c2
  have HE : Hid ((if x ≠ 0 then x else y) = cmpS (stp a) (stp b)) := Lib.hid (by rw [hx, hy]; rfl)
  have HN : Hid (Blk (((w.alloc (.cells #[.string (txt a.name), .string (txt a.key), .int .i64 a.kind, .int .u64 (a.num : Int), .string (txt a.text), u] 27)).alloc (.cells #[.string (txt b.name), .string (txt b.key), .int .i64 b.kind, .int .u64 (b.num : Int), .string (txt b.text), v] 27)).alloc (.cells #[.int .i64 x, .int .i64 y] 3)).drew (w.heap.size + 1 + 1) 3 #[.int .i64 x, .int .i64 y]) := Lib.hid (show Blk (((w.alloc (.cells #[.string (txt a.name), .string (txt a.key), .int .i64 a.kind, .int .u64 (a.num : Int), .string (txt a.text), u] 27)).alloc (.cells #[.string (txt b.name), .string (txt b.key), .int .i64 b.kind, .int .u64 (b.num : Int), .string (txt b.text), v] 27)).alloc (.cells #[.int .i64 x, .int .i64 y] 3)) (w.heap.size + 1 + 1) 3 #[.int .i64 x, .int .i64 y] from Blk.newA (by simp) _ _)
  clear h1 h2 hx hy c1 c2
  go_enter Try.func33, Try.ntmps33
  go_wp2_with fail
  refine wp_region_noPanic ?_
  refine wp_region_held_drew (S := fun _ => True) (by kernel_rfl) trivial (fun hS => ?_)
  refine held_more (S' := fun w' => Blk w' w.heap.size 27 #[.string (txt a.name), .string (txt a.key), .int .i64 a.kind, .int .u64 (a.num : Int), .string (txt a.text), u] ∧ Blk w' (w.heap.size + 1) 27 #[.string (txt b.name), .string (txt b.key), .int .i64 b.kind, .int .u64 (b.num : Int), .string (txt b.text), v]) (fun _ _ => trivial) _ _ _ _ ?_
  replace hS := H1.out
  refine wpAnyH_take (i := 0) (oi := ?o1_0_1) (v := ?v1_0_1) ?i1_0_1 (by kernel_rfl) (by kernel_rfl) (by kernel_rfl) (fun _ _ _ h => h) (Or.inl ⟨?g1_0_1, ?y1_0_1⟩) hS ?_
  case i1_0_1 => simp only [List.getElem?_toArray, List.getElem?_cons_succ, List.getElem?_cons_zero]; rfl
  case g1_0_1 => rfl
  case y1_0_1 => (intro w hSw; (go_simp <;> with_reducible rfl))
  (try simp only [Act.put, List.setIfInBounds_toArray, List.set_cons_zero, List.set_cons_succ])
  refine wpAnyH_take (i := 1) (oi := ?o1_1_2) (v := ?v1_1_2) ?i1_1_2 (by kernel_rfl) (by kernel_rfl) (by kernel_rfl) (fun _ _ _ h => h) (Or.inl ⟨?g1_1_2, ?y1_1_2⟩) hS ?_
  case i1_1_2 => simp only [List.getElem?_toArray, List.getElem?_cons_succ, List.getElem?_cons_zero]; rfl
  case g1_1_2 => rfl
  case y1_1_2 => (intro w hSw; have q0 := (hSw.1.cell 0).trans rfl; have q1 := (hSw.1.cell 1).trans rfl; have q2 := (hSw.1.cell 2).trans rfl; have q3 := (hSw.1.cell 3).trans rfl; have q4 := (hSw.1.cell 4).trans rfl; have q5 := (hSw.1.cell 5).trans rfl; (go_simp <;> with_reducible rfl))
  (try simp only [Act.put, List.setIfInBounds_toArray, List.set_cons_zero, List.set_cons_succ])
  refine wpAnyH_take (i := 2) (oi := ?o1_2_3) (v := ?v1_2_3) ?i1_2_3 (by kernel_rfl) (by kernel_rfl) (by kernel_rfl) (fun _ _ _ h => h) (Or.inl ⟨?g1_2_3, ?y1_2_3⟩) hS ?_
  case i1_2_3 => simp only [List.getElem?_toArray, List.getElem?_cons_succ, List.getElem?_cons_zero]; rfl
  case g1_2_3 => rfl
  case y1_2_3 => (intro w hSw; (go_simp <;> with_reducible rfl))
  (try simp only [Act.put, List.setIfInBounds_toArray, List.set_cons_zero, List.set_cons_succ])
  refine wpAnyH_take (i := 3) (oi := ?o1_3_4) (v := ?v1_3_4) ?i1_3_4 (by kernel_rfl) (by kernel_rfl) (by kernel_rfl) (fun _ _ _ h => h) (Or.inl ⟨?g1_3_4, ?y1_3_4⟩) hS ?_
  case i1_3_4 => simp only [List.getElem?_toArray, List.getElem?_cons_succ, List.getElem?_cons_zero]; rfl
  case g1_3_4 => rfl
  case y1_3_4 => (intro w hSw; have q0 := (hSw.2.cell 0).trans rfl; have q1 := (hSw.2.cell 1).trans rfl; have q2 := (hSw.2.cell 2).trans rfl; have q3 := (hSw.2.cell 3).trans rfl; have q4 := (hSw.2.cell 4).trans rfl; have q5 := (hSw.2.cell 5).trans rfl; (go_simp <;> with_reducible rfl))
  (try simp only [Act.put, List.setIfInBounds_toArray, List.set_cons_zero, List.set_cons_succ])
  refine wpAnyH_take (i := 5) (oi := ?o1_5_5) (v := ?v1_5_5) ?i1_5_5 (by kernel_rfl) (by kernel_rfl) (by kernel_rfl) (fun _ _ _ h => h) (Or.inl ⟨?g1_5_5, ?y1_5_5⟩) hS ?_
  case i1_5_5 => simp only [List.getElem?_toArray, List.getElem?_cons_succ, List.getElem?_cons_zero]; rfl
  case g1_5_5 => rfl
  case y1_5_5 => (intro w hSw; (go_simp <;> with_reducible rfl))
  (try simp only [Act.put, List.setIfInBounds_toArray, List.set_cons_zero, List.set_cons_succ])
  refine wpAnyH_take (i := 6) (oi := ?o1_6_6) (v := ?v1_6_6) ?i1_6_6 (by kernel_rfl) (by kernel_rfl) (by kernel_rfl) (fun _ _ _ h => h) (Or.inl ⟨?g1_6_6, ?y1_6_6⟩) hS ?_
  case i1_6_6 => simp only [List.getElem?_toArray, List.getElem?_cons_succ, List.getElem?_cons_zero]; rfl
  case g1_6_6 => rfl
  case y1_6_6 => (intro w hSw; have q0 := (hSw.1.cell 0).trans rfl; have q1 := (hSw.1.cell 1).trans rfl; have q2 := (hSw.1.cell 2).trans rfl; have q3 := (hSw.1.cell 3).trans rfl; have q4 := (hSw.1.cell 4).trans rfl; have q5 := (hSw.1.cell 5).trans rfl; (go_simp <;> with_reducible rfl))
  (try simp only [Act.put, List.setIfInBounds_toArray, List.set_cons_zero, List.set_cons_succ])
  refine wpAnyH_take (i := 7) (oi := ?o1_7_7) (v := ?v1_7_7) ?i1_7_7 (by kernel_rfl) (by kernel_rfl) (by kernel_rfl) (fun _ _ _ h => h) (Or.inl ⟨?g1_7_7, ?y1_7_7⟩) hS ?_
  case i1_7_7 => simp only [List.getElem?_toArray, List.getElem?_cons_succ, List.getElem?_cons_zero]; rfl
  case g1_7_7 => rfl
  case y1_7_7 => (intro w hSw; (go_simp <;> with_reducible rfl))
  (try simp only [Act.put, List.setIfInBounds_toArray, List.set_cons_zero, List.set_cons_succ])
  refine wpAnyH_take (i := 8) (oi := ?o1_8_8) (v := ?v1_8_8) ?i1_8_8 (by kernel_rfl) (by kernel_rfl) (by kernel_rfl) (fun _ _ _ h => h) (Or.inl ⟨?g1_8_8, ?y1_8_8⟩) hS ?_
  case i1_8_8 => simp only [List.getElem?_toArray, List.getElem?_cons_succ, List.getElem?_cons_zero]; rfl
  case g1_8_8 => rfl
  case y1_8_8 => (intro w hSw; have q0 := (hSw.2.cell 0).trans rfl; have q1 := (hSw.2.cell 1).trans rfl; have q2 := (hSw.2.cell 2).trans rfl; have q3 := (hSw.2.cell 3).trans rfl; have q4 := (hSw.2.cell 4).trans rfl; have q5 := (hSw.2.cell 5).trans rfl; (go_simp <;> with_reducible rfl))
  (try simp only [Act.put, List.setIfInBounds_toArray, List.set_cons_zero, List.set_cons_succ])
  refine wpAnyH_ready (rs := [4]) (by kernel_rfl) (by simp) ?_
  refine (AllReadyH.cons (o := ?or1_9_4) ?ir1_9_4 (fun K hK => ?str1_9_4) AllReadyH.nil)
  case ir1_9_4 => simp only [List.getElem?_toArray, List.getElem?_cons_succ, List.getElem?_cons_zero]; rfl
  rw [if_pos (by rfl)]
  go_simp
  refine (scmp_any _ _ _).mono ?_
  rintro r w3 ⟨rfl, rfl⟩
  rw [HC1.out]
  go_wp2_with fail
  refine hK.out _ _ ?sr1_9_4 (fun hS => ?_)
  case sr1_9_4 => (exact H1.out)
  clear hK K
  (try simp only [Act.put, List.setIfInBounds_toArray, List.set_cons_zero, List.set_cons_succ])
  refine wpAnyH_ready (rs := [9]) (by kernel_rfl) (by simp) ?_
  refine (AllReadyH.cons (o := ?or1_10_9) ?ir1_10_9 (fun K hK => ?str1_10_9) AllReadyH.nil)
  case ir1_10_9 => simp only [List.getElem?_toArray, List.getElem?_cons_succ, List.getElem?_cons_zero]; rfl
  rw [if_pos (by rfl)]
  go_simp
  refine (scmp_any _ _ _).mono ?_
  rintro r w3 ⟨rfl, rfl⟩
  rw [HC2.out]
  go_wp2_with fail
  refine hK.out _ _ ?sr1_10_9 (fun hS => ?_)
  case sr1_10_9 => (exact H1.out)
  clear hK K
  (try simp only [Act.put, List.setIfInBounds_toArray, List.set_cons_zero, List.set_cons_succ])
  refine wpAnyH_ready (rs := [10]) (by kernel_rfl) (by simp) ?_
  refine (AllReadyH.cons (o := ?or1_11_10) ?ir1_11_10 (fun K hK => ?str1_11_10) AllReadyH.nil)
  case ir1_11_10 => simp only [List.getElem?_toArray, List.getElem?_cons_succ, List.getElem?_cons_zero]; rfl
  rw [if_pos (by rfl)]
  go_simp
  refine hK.out _ _ ?sr1_11_10 (fun hS => ?_)
  case sr1_11_10 => (exact ⟨H1.out.1.alloc _, H1.out.2.alloc _⟩)
  clear hK K
  (try simp only [Act.put, List.setIfInBounds_toArray, List.set_cons_zero, List.set_cons_succ])
  refine wpAnyH_ready (rs := [11]) (by kernel_rfl) (by simp) ?_
  refine (AllReadyH.cons (o := ?or1_12_11) ?ir1_12_11 (fun K hK => ?str1_12_11) AllReadyH.nil)
  case ir1_12_11 => simp only [List.getElem?_toArray, List.getElem?_cons_succ, List.getElem?_cons_zero]; rfl
  rw [if_pos (by rfl)]
  go_simp
  refine (or_any x y (w.heap.size + 1 + 1) _ HN.out).mono ?_
  rintro r w3 ⟨rfl, rfl⟩
  rw [HE.out]
  go_wp2_with fail
  refine hK.out _ _ ?sr1_12_11 (fun hS => ?_)
  case sr1_12_11 => (exact ⟨H1.out.1.alloc _, H1.out.2.alloc _⟩)
  clear hK K
  (try simp only [Act.put, List.setIfInBounds_toArray, List.set_cons_zero, List.set_cons_succ])
  refine wpAnyH_take (i := 12) (oi := ?o1_12_13) (v := ?v1_12_13) ?i1_12_13 (by kernel_rfl) (by kernel_rfl) (by kernel_rfl) (fun _ _ _ h => h) (Or.inl ⟨?g1_12_13, ?y1_12_13⟩) hS ?_
  case i1_12_13 => simp only [List.getElem?_toArray, List.getElem?_cons_succ, List.getElem?_cons_zero]; rfl
  case g1_12_13 => rfl
  case y1_12_13 => (intro w hSw; (go_simp <;> with_reducible rfl))
  (try simp only [Act.put, List.setIfInBounds_toArray, List.set_cons_zero, List.set_cons_succ])
  refine wpAnyH_done (by kernel_rfl) ?_ _
  refine NoPanic.normal ?_
  clear hS
  go_wp2
  go_ret
  exact ⟨rfl, 1, #[.cells #[.string (txt a.name), .string (txt a.key), .int .i64 a.kind, .int .u64 (a.num : Int), .string (txt a.text), u] 27, .cells #[.string (txt b.name), .string (txt b.key), .int .i64 b.kind, .int .u64 (b.num : Int), .string (txt b.text), v] 27, .cells #[.int .i64 x, .int .i64 y] 3], by simp [Go.Sort.alloc_eq_grow, Go.Sort.drew_grow, Go.Sort.grow_grow, drew_is, drewN_grow]⟩
set_option maxHeartbeats 1000000 in
set_option maxRecDepth 100000 in
theorem less_any (a b : NdD) (u v : Value) (w : World) (hu : u.oneCell' = true) (hv : v.oneCell' = true) :
    Calls Try.prog 18 #[.agg #[.string (txt a.name), .string (txt a.key), .int .i64 a.kind, .int .u64 (a.num : Int), .string (txt a.text), u], .agg #[.string (txt b.name), .string (txt b.key), .int .i64 b.kind, .int .u64 (b.num : Int), .string (txt b.text), v]] w (Ans9 (.bool (lessX a b)) w) := by
  have h1 : Blk ((w.alloc (.cells #[.string (txt a.name), .string (txt a.key), .int .i64 a.kind, .int .u64 (a.num : Int), .string (txt a.text), u] 27)).alloc (.cells #[.string (txt b.name), .string (txt b.key), .int .i64 b.kind, .int .u64 (b.num : Int), .string (txt b.text), v] 27)) w.heap.size 27 #[.string (txt a.name), .string (txt a.key), .int .i64 a.kind, .int .u64 (a.num : Int), .string (txt a.text), u] := (Blk.new w 27 #[.string (txt a.name), .string (txt a.key), .int .i64 a.kind, .int .u64 (a.num : Int), .string (txt a.text), u]).alloc _
  have h2 : Blk ((w.alloc (.cells #[.string (txt a.name), .string (txt a.key), .int .i64 a.kind, .int .u64 (a.num : Int), .string (txt a.text), u] 27)).alloc (.cells #[.string (txt b.name), .string (txt b.key), .int .i64 b.kind, .int .u64 (b.num : Int), .string (txt b.text), v] 27)) (w.heap.size + 1) 27 #[.string (txt b.name), .string (txt b.key), .int .i64 b.kind, .int .u64 (b.num : Int), .string (txt b.text), v] := Blk.newA (by simp) _ _
  have HB : Hid (Below w.heap.size w ((w.alloc (.cells #[.string (txt a.name), .string (txt a.key), .int .i64 a.kind, .int .u64 (a.num : Int), .string (txt a.text), u] 27)).alloc (.cells #[.string (txt b.name), .string (txt b.key), .int .i64 b.kind, .int .u64 (b.num : Int), .string (txt b.text), v] 27))) := Lib.hid (((Below.refl _ _).alloc (Nat.le_refl _) _).alloc (by simp) _)
  have HO := Lib.hid (fun W => order_any a b u v W hu hv)
  cases h : lessX a b with
  | true =>
    have hd : decide (cmpS (stp a) (stp b) < 0) = true := (cmpS_decide _ _).trans h
    have hd2 : cmpS (stp a) (stp b) < 0 := of_decide_eq_true hd
    generalize cmpS (stp a) (stp b) = z at HO hd hd2
    have q0 := (h1.cell 0).trans rfl
    have q1 := (h1.cell 1).trans rfl
    have q2 := (h1.cell 2).trans rfl
    have q3 := (h1.cell 3).trans rfl
    have q4 := (h1.cell 4).trans rfl
    have q5 := (h1.cell 5).trans rfl
    have p0 := (h2.cell 0).trans rfl
    have p1 := (h2.cell 1).trans rfl
    have p2 := (h2.cell 2).trans rfl
    have p3 := (h2.cell 3).trans rfl
    have p4 := (h2.cell 4).trans rfl
    have p5 := (h2.cell 5).trans rfl
    clear h1 h2 h
    go_enter Try.func18, Try.ntmps18
    go_wp2_with fail
    refine (HO.out _).mono ?_
    intro r w3 h3
    obtain ⟨rfl, hb3⟩ := h3.ans
    have HB3 := Lib.hid (HB.out.trans (hb3.mono HB.out.size))
    clear hb3 h3
    go_wp2
    go_ret
    exact ⟨rfl, HB3.out⟩
  | false =>
    have hd : decide (cmpS (stp a) (stp b) < 0) = false := (cmpS_decide _ _).trans h
    have hd2 : ¬ cmpS (stp a) (stp b) < 0 := of_decide_eq_false hd
    generalize cmpS (stp a) (stp b) = z at HO hd hd2
    have q0 := (h1.cell 0).trans rfl
    have q1 := (h1.cell 1).trans rfl
    have q2 := (h1.cell 2).trans rfl
    have q3 := (h1.cell 3).trans rfl
    have q4 := (h1.cell 4).trans rfl
    have q5 := (h1.cell 5).trans rfl
    have p0 := (h2.cell 0).trans rfl
    have p1 := (h2.cell 1).trans rfl
    have p2 := (h2.cell 2).trans rfl
    have p3 := (h2.cell 3).trans rfl
    have p4 := (h2.cell 4).trans rfl
    have p5 := (h2.cell 5).trans rfl
    clear h1 h2 h
    go_enter Try.func18, Try.ntmps18
    go_wp2_with fail
    refine (HO.out _).mono ?_
    intro r w3 h3
    obtain ⟨rfl, hb3⟩ := h3.ans
    have HB3 := Lib.hid (HB.out.trans (hb3.mono HB.out.size))
    clear hb3 h3
    go_wp2
    go_ret
    exact ⟨rfl, HB3.out⟩
theorem LieN.one {b : Nat} {w : World} {cs : List Value} {x : Nd} (h : LieB b w cs x) : ∃ v, cs = ndC x.1 v ∧ v.oneCell' = true := by
  obtain ⟨A, c, h, _⟩ := h.shape
  exact ⟨_, h, rfl⟩
theorem lessT (W0 : World) : LessTC W0 := by
  intro x y cs ds w hx hy _
  obtain ⟨u, rfl, hu⟩ := LieN.one hx
  obtain ⟨v, rfl, hv⟩ := LieN.one hy
  exact less_any x.1 y.1 u v w hu hv
set_option maxHeartbeats 1000000 in
set_option maxRecDepth 100000 in
theorem leafis_any (a : NdD) (u : Value) (w : World) :
    Calls Try.prog 30 #[.agg #[.string (txt a.name), .string (txt a.key), .int .i64 a.kind, .int .u64 (a.num : Int), .string (txt a.text), u]] w (Ans9 (.bool (decide (a.kind ≠ 0))) w) := by
  have h1 : Blk (w.alloc (.cells #[.string (txt a.name), .string (txt a.key), .int .i64 a.kind, .int .u64 (a.num : Int), .string (txt a.text), u] 27)) w.heap.size 27 #[.string (txt a.name), .string (txt a.key), .int .i64 a.kind, .int .u64 (a.num : Int), .string (txt a.text), u] := Blk.new w 27 #[.string (txt a.name), .string (txt a.key), .int .i64 a.kind, .int .u64 (a.num : Int), .string (txt a.text), u]
  have HB : Hid (Below w.heap.size w (w.alloc (.cells #[.string (txt a.name), .string (txt a.key), .int .i64 a.kind, .int .u64 (a.num : Int), .string (txt a.text), u] 27))) := Lib.hid ((Below.refl _ _).alloc (Nat.le_refl _) _)
  clear h1
  by_cases h : a.kind = 0
  · have e1 : (a.kind == 0) = true := beq_iff_eq.2 h
    have e2 : (a.kind != 0) = false := by simp [h]
    have HD : Hid (decide (a.kind ≠ 0) = false) := Lib.hid (by simp [h])
    clear h
    go_enter Try.func30, Try.ntmps30
    go_wp2
    go_ret
    exact ⟨by rw [HD.out]; rfl, HB.out⟩
  · have e1 : (a.kind == 0) = false := beq_eq_false_iff_ne.2 h
    have e2 : (a.kind != 0) = true := by simp [h]
    have HD : Hid (decide (a.kind ≠ 0) = true) := Lib.hid (by simp [h])
    clear h
    go_enter Try.func30, Try.ntmps30
    go_wp2
    go_ret
    exact ⟨by rw [HD.out]; rfl, HB.out⟩
set_option maxHeartbeats 1000000 in
set_option maxRecDepth 100000 in
theorem stepof_any (a : NdD) (u : Value) (w : World) :
    Calls Try.prog 36 #[.agg #[.string (txt a.name), .string (txt a.key), .int .i64 a.kind, .int .u64 (a.num : Int), .string (txt a.text), u]] w (Ans9 (.agg #[.string (txt a.name), .string (txt a.key)]) w) := by
  have HZ : Hid (Blk ((w.alloc (.cells #[.string (txt a.name), .string (txt a.key), .int .i64 a.kind, .int .u64 (a.num : Int), .string (txt a.text), u] 27)).alloc (.cells #[.string (txt a.name), .string (txt a.key)] 43)) (w.heap.size + 1) 43 #[.string (txt a.name), .string (txt a.key)]) := Lib.hid (Blk.newA (by simp) _ _)
  have HB : Hid (Below w.heap.size w ((w.alloc (.cells #[.string (txt a.name), .string (txt a.key), .int .i64 a.kind, .int .u64 (a.num : Int), .string (txt a.text), u] 27)).alloc (.cells #[.string (txt a.name), .string (txt a.key)] 43))) := Lib.hid (((Below.refl _ _).alloc (Nat.le_refl _) _).alloc (by simp) _)
  go_enter Try.func36, Try.ntmps36
  go_wp2
  refine bodyPost_ret (results_cell_row rfl _ _ (w.heap.size + 1) 43 _ (0, 0) _ rfl HZ.out Try.underlying43 rfl (by kernel_rfl)) rfl ?_
  exact ⟨rfl, HB.out⟩
end Go.Proofs.Ytgipnemcmiohlaa
namespace Go.Proofs.Ytgipnemcmiohlaa
open Go.RowKit
set_option linter.unusedSimpArgs false
set_option linter.unusedVariables false
def DRightP (f : NdF) : Prop := ∀ (a : NdD) (A : Option Addr) (c : Nat) (w : World), RowT w.heap.size w (.slice A f.len c) f → f.size ≤ 1000000 →
    Calls Try.prog 11 #[.agg #[.string (txt a.name), .string (txt a.key), .int .i64 a.kind, .int .u64 (a.num : Int), .string (txt a.text), .slice A f.len c]] w (Ans9 (.bool (rgtX (a, f))) w)
set_option maxRecDepth 100000 in
set_option maxHeartbeats 2000000 in
theorem dright_leaf (f : NdF) (a : NdD) (A : Option Addr) (c : Nat) (w : World) (h0 : a.kind ≠ 0) :
    Calls Try.prog 11 #[.agg #[.string (txt a.name), .string (txt a.key), .int .i64 a.kind, .int .u64 (a.num : Int), .string (txt a.text), .slice A f.len c]] w (Ans9 (.bool (rgtX (a, f))) w) := by
  have h1 : Blk (w.alloc (.cells #[.string (txt a.name), .string (txt a.key), .int .i64 a.kind, .int .u64 (a.num : Int), .string (txt a.text), .slice A f.len c] 27)) w.heap.size 27 #[.string (txt a.name), .string (txt a.key), .int .i64 a.kind, .int .u64 (a.num : Int), .string (txt a.text), .slice A f.len c] := Blk.new _ _ _
  have HB0 : Hid (Below w.heap.size w (w.alloc (.cells #[.string (txt a.name), .string (txt a.key), .int .i64 a.kind, .int .u64 (a.num : Int), .string (txt a.text), .slice A f.len c] 27))) := Lib.hid ((Below.refl _ _).alloc (Nat.le_refl _) _)
  have HL : Hid (∀ W, Calls Try.prog 30 #[.agg #[.string (txt a.name), .string (txt a.key), .int .i64 a.kind, .int .u64 (a.num : Int), .string (txt a.text), .slice A f.len c]] W (Ans9 (.bool true) W)) := Lib.hid (fun W => by
    have h := leafis_any a (.slice A f.len c) W
    rw [show decide (a.kind ≠ 0) = true by simp [h0]] at h
    exact h)
  have HV : Hid (rgtX (a, f) = decide (f.len = 0)) := Lib.hid (by unfold rgtX; rw [if_pos h0])
  have H1 := Lib.hid h1
  have q0 := (H1.out.cell 0).trans rfl
  have q1 := (H1.out.cell 1).trans rfl
  have q2 := (H1.out.cell 2).trans rfl
  have q3 := (H1.out.cell 3).trans rfl
  have q4 := (H1.out.cell 4).trans rfl
  have q5 := (H1.out.cell 5).trans rfl
  clear h1 h0
  by_cases hl : f.len = 0
  · have e3 : ((f.len : Int) == 0) = true := by simp [hl]
    have HW : Hid (f.len = 0) := Lib.hid hl
    clear hl
    go_enter Try.func11, Try.ntmps11
    go_wp2_with fail
    refine (HL.out _).mono ?_
    rintro r w3 ⟨rfl, hb3⟩
    have q5' : w3.cell? ⟨w.heap.size, 5, none⟩ = some (.slice A f.len c) := ((H1.out.below hb3 H1.out.lt).cell 5).trans rfl
    have HB3 := Lib.hid (HB0.out.trans (hb3.mono HB0.out.size))
    clear hb3
    go_wp2
    go_ret
    exact ⟨by rw [HV.out, decide_eq_true HW.out]; rfl, HB3.out⟩
  · have e3 : ((f.len : Int) == 0) = false := by simp [hl]
    have HW : Hid (¬ f.len = 0) := Lib.hid hl
    clear hl
    go_enter Try.func11, Try.ntmps11
    go_wp2_with fail
    refine (HL.out _).mono ?_
    rintro r w3 ⟨rfl, hb3⟩
    have q5' : w3.cell? ⟨w.heap.size, 5, none⟩ = some (.slice A f.len c) := ((H1.out.below hb3 H1.out.lt).cell 5).trans rfl
    have HB3 := Lib.hid (HB0.out.trans (hb3.mono HB0.out.size))
    clear hb3
    go_wp2
    go_ret
    exact ⟨by rw [HV.out, decide_eq_false HW.out]; rfl, HB3.out⟩
set_option maxRecDepth 100000 in
set_option maxHeartbeats 2000000 in
theorem dright_box (f : NdF) (nm ky : List UInt8) (nu : Nat) (tx : List UInt8) (A : Option Addr) (c : Nat) (w : World) (h0 : ¬ (nu = 0 ∧ tx = [])) :
    Calls Try.prog 11 #[.agg #[.string (txt nm), .string (txt ky), .int .i64 0, .int .u64 (nu : Int), .string (txt tx), .slice A f.len c]] w (Ans9 (.bool false) w) := by
  have h1 : Blk (w.alloc (.cells #[.string (txt nm), .string (txt ky), .int .i64 0, .int .u64 (nu : Int), .string (txt tx), .slice A f.len c] 27)) w.heap.size 27 #[.string (txt nm), .string (txt ky), .int .i64 0, .int .u64 (nu : Int), .string (txt tx), .slice A f.len c] := Blk.new _ _ _
  have HB0 : Hid (Below w.heap.size w (w.alloc (.cells #[.string (txt nm), .string (txt ky), .int .i64 0, .int .u64 (nu : Int), .string (txt tx), .slice A f.len c] 27))) := Lib.hid ((Below.refl _ _).alloc (Nat.le_refl _) _)
  have HL : Hid (∀ W, Calls Try.prog 30 #[.agg #[.string (txt nm), .string (txt ky), .int .i64 0, .int .u64 (nu : Int), .string (txt tx), .slice A f.len c]] W (Ans9 (.bool false) W)) := Lib.hid (fun W => leafis_any (⟨nm, ky, 0, nu, tx⟩ : NdD) (.slice A f.len c) W)
  have H1 := Lib.hid h1
  have q0 := (H1.out.cell 0).trans rfl
  have q1 := (H1.out.cell 1).trans rfl
  have q2 := (H1.out.cell 2).trans rfl
  have q3 := (H1.out.cell 3).trans rfl
  have q4 := (H1.out.cell 4).trans rfl
  have q5 := (H1.out.cell 5).trans rfl
  have tt : (txt tx).toList = tx := txt_toList _
  clear h1
  by_cases h2 : nu = 0
  · subst h2
    have e4 : tx.isEmpty = false := by cases tx with | nil => exact absurd ⟨rfl, rfl⟩ h0 | cons => rfl
    have e5 : (tx == []) = false := by cases tx with | nil => cases e4 | cons => rfl
    clear h0
    go_enter Try.func11, Try.ntmps11
    go_wp2_with fail
    refine (HL.out _).mono ?_
    rintro r w3 ⟨rfl, hb3⟩
    have HP := Lib.hid (H1.out.below hb3 H1.out.lt)
    have HB3 := Lib.hid (HB0.out.trans (hb3.mono HB0.out.size))
    clear hb3
    have p0 := (HP.out.cell 0).trans rfl
    have p1 := (HP.out.cell 1).trans rfl
    have p2 := (HP.out.cell 2).trans rfl
    have p3 := (HP.out.cell 3).trans rfl
    have p4 := (HP.out.cell 4).trans rfl
    have p5 := (HP.out.cell 5).trans rfl
    go_wp2
    go_ret
    exact ⟨rfl, HB3.out⟩
  · have e3 : ((nu : Int) == 0) = false := by simp [h2]
    have e6 : (nu == 0) = false := by simp [h2]
    clear h0
    go_enter Try.func11, Try.ntmps11
    go_wp2_with fail
    refine (HL.out _).mono ?_
    rintro r w3 ⟨rfl, hb3⟩
    have HP := Lib.hid (H1.out.below hb3 H1.out.lt)
    have HB3 := Lib.hid (HB0.out.trans (hb3.mono HB0.out.size))
    clear hb3
    have p0 := (HP.out.cell 0).trans rfl
    have p1 := (HP.out.cell 1).trans rfl
    have p2 := (HP.out.cell 2).trans rfl
    have p3 := (HP.out.cell 3).trans rfl
    have p4 := (HP.out.cell 4).trans rfl
    have p5 := (HP.out.cell 5).trans rfl
    go_wp2
    go_ret
    exact ⟨rfl, HB3.out⟩
set_option maxRecDepth 100000 in
set_option maxHeartbeats 4000000 in
theorem dright_row (f : NdF) (hkids : ∀ n a k, f.get? n = some (a, k) → DRightP k) (nm ky : List UInt8) (A : Option Addr) (c : Nat) (w : World) (hk : RowT w.heap.size w (.slice A f.len c) f) (hsz : f.size ≤ 1000000) :
    Calls Try.prog 11 #[.agg #[.string (txt nm), .string (txt ky), .int .i64 0, .int .u64 0, .string (txt []), .slice A f.len c]] w (Ans9 (.bool (rgtF f)) w) := by
  have h1 : Blk (w.alloc (.cells #[.string (txt nm), .string (txt ky), .int .i64 0, .int .u64 0, .string (txt []), .slice A f.len c] 27)) w.heap.size 27 #[.string (txt nm), .string (txt ky), .int .i64 0, .int .u64 0, .string (txt []), .slice A f.len c] := Blk.new _ _ _
  have HB0 : Hid (Below w.heap.size w (w.alloc (.cells #[.string (txt nm), .string (txt ky), .int .i64 0, .int .u64 0, .string (txt []), .slice A f.len c] 27))) := Lib.hid ((Below.refl _ _).alloc (Nat.le_refl _) _)
  have HL0 : Hid (∀ W, Calls Try.prog 30 #[.agg #[.string (txt nm), .string (txt ky), .int .i64 0, .int .u64 0, .string (txt []), .slice A f.len c]] W (Ans9 (.bool false) W)) := Lib.hid (fun W => leafis_any (⟨nm, ky, 0, 0, []⟩ : NdD) (.slice A f.len c) W)
  have H1 := Lib.hid h1
  have q0 := (H1.out.cell 0).trans rfl
  have q1 := (H1.out.cell 1).trans rfl
  have q2 := (H1.out.cell 2).trans rfl
  have q3 := (H1.out.cell 3).trans rfl
  have q4 := (H1.out.cell 4).trans rfl
  have q5 := (H1.out.cell 5).trans rfl
  have HI := Lib.hid hkids
  have HK : Hid (RowT w.heap.size w (.slice A f.len c) f) := Lib.hid hk
  have HZ : Hid (f.size ≤ 1000000) := Lib.hid hsz
  have tt : (txt []).toList = [] := txt_toList _
  clear hkids hk hsz h1
  go_enter Try.func11, Try.ntmps11
  go_wp2_with fail
  refine (HL0.out _).mono ?_
  rintro r w3 ⟨rfl, hb3⟩
  have HP := Lib.hid (H1.out.below hb3 H1.out.lt)
  have HB3 := Lib.hid (HB0.out.trans (hb3.mono HB0.out.size))
  clear hb3 q0 q1 q2 q3 q4 q5
  have p0 := (HP.out.cell 0).trans rfl
  have p1 := (HP.out.cell 1).trans rfl
  have p2 := (HP.out.cell 2).trans rfl
  have p3 := (HP.out.cell 3).trans rfl
  have p4 := (HP.out.cell 4).trans rfl
  have p5 := (HP.out.cell 5).trans rfl
  go_wp2
  go_loopw [18] (fun i wr => ∃ j : Nat, j ≤ f.len ∧ i = .int .i64 (j : Int) ∧ Hid (∀ n, n < j → okAt f n = true) ∧ Blk wr w.heap.size 27 #[.string (txt nm), .string (txt ky), .int .i64 0, .int .u64 0, .string (txt []), .slice A f.len c] ∧ Below w.heap.size w wr) (fun i _ => f.len - (intOf i).toNat)
  case atStart => exact ⟨0, Nat.zero_le _, rfl, Lib.hid (fun n h => by omega), HP.out, HB3.out⟩
  case round =>
    clear p0 p1 p2 p3 p4 p5 HP HB3
    obtain ⟨j, hj, rfl, HL, hP, hB⟩ := hrel
    have HBr := Lib.hid hB
    have HP := Lib.hid hP
    by_cases hlt : j < f.len
    · obtain ⟨a1, q, hg⟩ := Fr.get_some hlt
      have hok := okAt_at hg
      obtain ⟨b, o, A', c', rfl, -, -, hbl, hrow, hcl⟩ := HK.out.at hg
      have hcell : ∀ i u, (ndC a1 (.slice A' q.len c'))[i]? = some u → wr.cell? ⟨b, o + j * 6 + i, none⟩ = some u := fun i u hu => (hB.cell (p := ⟨b, o + j * 6 + i, none⟩) hbl).trans (hcl i u hu)
      have q0 : (wr).cell? ⟨b, o + j * 6, none⟩ = _ := hcell 0 _ rfl
      have q1 : (wr).cell? ⟨b, o + j * 6 + 1, none⟩ = _ := hcell 1 _ rfl
      have q2 : (wr).cell? ⟨b, o + j * 6 + 2, none⟩ = _ := hcell 2 _ rfl
      have q3 : (wr).cell? ⟨b, o + j * 6 + 3, none⟩ = _ := hcell 3 _ rfl
      have q4 : (wr).cell? ⟨b, o + j * 6 + 4, none⟩ = _ := hcell 4 _ rfl
      have q5 : (wr).cell? ⟨b, o + j * 6 + 5, none⟩ = _ := hcell 5 _ rfl
      have i1 : (0 : Int) ≤ (j : Int) := by omega
      have i2 : (j : Int) < (f.len : Int) := by omega
      have i3 : (f.len : Int) ≤ 1000000 := by have := HZ.out; have := Fr.len_size f; omega
      obtain ⟨rb, hrb⟩ : ∃ z, z = rgtX (a1, q) := ⟨_, rfl⟩
      have hBK : Below w.heap.size w (wr.alloc (.cells #[.string (txt a1.name), .string (txt a1.key), .int .i64 a1.kind, .int .u64 (a1.num : Int), .string (txt a1.text), .slice A' q.len c'] 27)) := hB.alloc hB.size _
      have HRt : Hid (∀ W, Below w.heap.size w W → Calls Try.prog 11 #[.agg #[.string (txt a1.name), .string (txt a1.key), .int .i64 a1.kind, .int .u64 (a1.num : Int), .string (txt a1.text), .slice A' q.len c']] W (Ans9 (.bool rb) W)) := Lib.hid (fun W hW => by
        rw [hrb]; exact HI.out j a1 q hg a1 A' c' _ (hrow.under hW (Nat.le_refl _) hW.size) (by have := HZ.out; have := Fr.size_get hg; omega))
      have hbk : Blk (wr.alloc (.cells #[.string (txt a1.name), .string (txt a1.key), .int .i64 a1.kind, .int .u64 (a1.num : Int), .string (txt a1.text), .slice A' q.len c'] 27)) wr.heap.size 27 #[.string (txt a1.name), .string (txt a1.key), .int .i64 a1.kind, .int .u64 (a1.num : Int), .string (txt a1.text), .slice A' q.len c'] := Blk.new _ _ _
      have hbp : Blk (wr.alloc (.cells #[.string (txt a1.name), .string (txt a1.key), .int .i64 a1.kind, .int .u64 (a1.num : Int), .string (txt a1.text), .slice A' q.len c'] 27)) w.heap.size 27 #[.string (txt nm), .string (txt ky), .int .i64 0, .int .u64 0, .string (txt []), .slice (some ⟨b, o, none⟩) f.len c] := hP.alloc _
      have HBD := Lib.hid hBK.drew
      have HPD : Hid (Blk (wr.alloc (.cells #[.string (txt a1.name), .string (txt a1.key), .int .i64 a1.kind, .int .u64 (a1.num : Int), .string (txt a1.text), .slice A' q.len c'] 27)).drew w.heap.size 27 #[.string (txt nm), .string (txt ky), .int .i64 0, .int .u64 0, .string (txt []), .slice (some ⟨b, o, none⟩) f.len c]) := Lib.hid hbp
      have HKD : Hid (Blk (wr.alloc (.cells #[.string (txt a1.name), .string (txt a1.key), .int .i64 a1.kind, .int .u64 (a1.num : Int), .string (txt a1.text), .slice A' q.len c'] 27)).drew wr.heap.size 27 #[.string (txt a1.name), .string (txt a1.key), .int .i64 a1.kind, .int .u64 (a1.num : Int), .string (txt a1.text), .slice A' q.len c']) := Lib.hid hbk
      have HBL := Lib.hid hbl
      by_cases hj0 : j = 0
      · subst hj0
        simp only [Nat.zero_mul, Nat.add_zero] at q0 q1 q2 q3 q4 q5
        have HLx : Hid (rb = false → rgtF f = false) := Lib.hid (fun h => right_none hlt (by rw [hok, ← hrb, h]; rfl))
        have HL2 : Hid (rb = true → ∀ n, n < 0 + 1 → okAt f n = true) := Lib.hid (fun h n hn => by
          rw [show n = 0 by omega, hok, ← hrb, h]; rfl)
        clear hcl hg hrow hcell hP hB hok hrb hbl hBK hbk hbp
        go_wp2_with fail
        clear q0 q1 q2 q3 q4 q5
        refine wp_region_noPanic ?_
        refine wp_region_held_drew (S := fun _ => True) (by kernel_rfl) trivial (fun hS => ?_)
        refine held_more (S' := fun w' => Blk w' wr.heap.size 27 #[.string (txt a1.name), .string (txt a1.key), .int .i64 a1.kind, .int .u64 (a1.num : Int), .string (txt a1.text), .slice A' q.len c']) (fun _ _ => trivial) _ _ _ _ ?_
        replace hS := HKD.out
        refine wpAnyH_take (i := 0) (oi := ?o1_0_1) (v := ?v1_0_1) ?i1_0_1 (by kernel_rfl) (by kernel_rfl) (by kernel_rfl) (fun _ _ _ h => h) (Or.inl ⟨?g1_0_1, ?y1_0_1⟩) hS ?_
        case i1_0_1 => simp only [List.getElem?_toArray, List.getElem?_cons_succ, List.getElem?_cons_zero]; rfl
        case g1_0_1 => rfl
        case y1_0_1 => (intro w hSw; (go_simp <;> with_reducible rfl))
        (try simp only [Act.put, List.setIfInBounds_toArray, List.set_cons_zero, List.set_cons_succ])
        refine wpAnyH_take (i := 1) (oi := ?o1_1_2) (v := ?v1_1_2) ?i1_1_2 (by kernel_rfl) (by kernel_rfl) (by kernel_rfl) (fun _ _ _ h => h) (Or.inl ⟨?g1_1_2, ?y1_1_2⟩) hS ?_
        case i1_1_2 => simp only [List.getElem?_toArray, List.getElem?_cons_succ, List.getElem?_cons_zero]; rfl
        case g1_1_2 => rfl
        case y1_1_2 => (intro w hSw; (go_simp <;> with_reducible rfl))
        (try simp only [Act.put, List.setIfInBounds_toArray, List.set_cons_zero, List.set_cons_succ])
        refine wpAnyH_take (i := 2) (oi := ?o1_2_3) (v := ?v1_2_3) ?i1_2_3 (by kernel_rfl) (by kernel_rfl) (by kernel_rfl) (fun _ _ _ h => h) (Or.inl ⟨?g1_2_3, ?y1_2_3⟩) hS ?_
        case i1_2_3 => simp only [List.getElem?_toArray, List.getElem?_cons_succ, List.getElem?_cons_zero]; rfl
        case g1_2_3 => rfl
        case y1_2_3 => (intro w hSw; (go_simp <;> with_reducible rfl))
        (try simp only [Act.put, List.setIfInBounds_toArray, List.set_cons_zero, List.set_cons_succ])
        refine wpAnyH_take (i := 3) (oi := ?o1_3_4) (v := undef) ?i1_3_4 (by kernel_rfl) (by kernel_rfl) (by kernel_rfl) (fun _ _ _ h => h) (Or.inr ⟨?g1_3_4, rfl⟩) hS ?_
        case i1_3_4 => simp only [List.getElem?_toArray, List.getElem?_cons_succ, List.getElem?_cons_zero]; rfl
        case g1_3_4 => rfl
        (try simp only [Act.put, List.setIfInBounds_toArray, List.set_cons_zero, List.set_cons_succ])
        refine wpAnyH_take (i := 4) (oi := ?o1_4_5) (v := undef) ?i1_4_5 (by kernel_rfl) (by kernel_rfl) (by kernel_rfl) (fun _ _ _ h => h) (Or.inr ⟨?g1_4_5, rfl⟩) hS ?_
        case i1_4_5 => simp only [List.getElem?_toArray, List.getElem?_cons_succ, List.getElem?_cons_zero]; rfl
        case g1_4_5 => rfl
        (try simp only [Act.put, List.setIfInBounds_toArray, List.set_cons_zero, List.set_cons_succ])
        refine wpAnyH_take (i := 5) (oi := ?o1_5_6) (v := undef) ?i1_5_6 (by kernel_rfl) (by kernel_rfl) (by kernel_rfl) (fun _ _ _ h => h) (Or.inr ⟨?g1_5_6, rfl⟩) hS ?_
        case i1_5_6 => simp only [List.getElem?_toArray, List.getElem?_cons_succ, List.getElem?_cons_zero]; rfl
        case g1_5_6 => rfl
        (try simp only [Act.put, List.setIfInBounds_toArray, List.set_cons_zero, List.set_cons_succ])
        refine wpAnyH_take (i := 6) (oi := ?o1_6_7) (v := undef) ?i1_6_7 (by kernel_rfl) (by kernel_rfl) (by kernel_rfl) (fun _ _ _ h => h) (Or.inr ⟨?g1_6_7, rfl⟩) hS ?_
        case i1_6_7 => simp only [List.getElem?_toArray, List.getElem?_cons_succ, List.getElem?_cons_zero]; rfl
        case g1_6_7 => rfl
        (try simp only [Act.put, List.setIfInBounds_toArray, List.set_cons_zero, List.set_cons_succ])
        refine wpAnyH_take (i := 7) (oi := ?o1_7_8) (v := undef) ?i1_7_8 (by kernel_rfl) (by kernel_rfl) (by kernel_rfl) (fun _ _ _ h => h) (Or.inr ⟨?g1_7_8, rfl⟩) hS ?_
        case i1_7_8 => simp only [List.getElem?_toArray, List.getElem?_cons_succ, List.getElem?_cons_zero]; rfl
        case g1_7_8 => rfl
        (try simp only [Act.put, List.setIfInBounds_toArray, List.set_cons_zero, List.set_cons_succ])
        refine wpAnyH_take (i := 8) (oi := ?o1_8_9) (v := undef) ?i1_8_9 (by kernel_rfl) (by kernel_rfl) (by kernel_rfl) (fun _ _ _ h => h) (Or.inr ⟨?g1_8_9, rfl⟩) hS ?_
        case i1_8_9 => simp only [List.getElem?_toArray, List.getElem?_cons_succ, List.getElem?_cons_zero]; rfl
        case g1_8_9 => rfl
        (try simp only [Act.put, List.setIfInBounds_toArray, List.set_cons_zero, List.set_cons_succ])
        refine wpAnyH_take (i := 9) (oi := ?o1_9_10) (v := undef) ?i1_9_10 (by kernel_rfl) (by kernel_rfl) (by kernel_rfl) (fun _ _ _ h => h) (Or.inr ⟨?g1_9_10, rfl⟩) hS ?_
        case i1_9_10 => simp only [List.getElem?_toArray, List.getElem?_cons_succ, List.getElem?_cons_zero]; rfl
        case g1_9_10 => rfl
        (try simp only [Act.put, List.setIfInBounds_toArray, List.set_cons_zero, List.set_cons_succ])
        refine wpAnyH_take (i := 10) (oi := ?o1_10_11) (v := undef) ?i1_10_11 (by kernel_rfl) (by kernel_rfl) (by kernel_rfl) (fun _ _ _ h => h) (Or.inr ⟨?g1_10_11, rfl⟩) hS ?_
        case i1_10_11 => simp only [List.getElem?_toArray, List.getElem?_cons_succ, List.getElem?_cons_zero]; rfl
        case g1_10_11 => rfl
        (try simp only [Act.put, List.setIfInBounds_toArray, List.set_cons_zero, List.set_cons_succ])
        refine wpAnyH_take (i := 11) (oi := ?o1_11_12) (v := undef) ?i1_11_12 (by kernel_rfl) (by kernel_rfl) (by kernel_rfl) (fun _ _ _ h => h) (Or.inr ⟨?g1_11_12, rfl⟩) hS ?_
        case i1_11_12 => simp only [List.getElem?_toArray, List.getElem?_cons_succ, List.getElem?_cons_zero]; rfl
        case g1_11_12 => rfl
        (try simp only [Act.put, List.setIfInBounds_toArray, List.set_cons_zero, List.set_cons_succ])
        refine wpAnyH_take (i := 12) (oi := ?o1_12_13) (v := ?v1_12_13) ?i1_12_13 (by kernel_rfl) (by kernel_rfl) (by kernel_rfl) (fun _ _ _ h => h) (Or.inl ⟨?g1_12_13, ?y1_12_13⟩) hS ?_
        case i1_12_13 => simp only [List.getElem?_toArray, List.getElem?_cons_succ, List.getElem?_cons_zero]; rfl
        case g1_12_13 => rfl
        case y1_12_13 => (intro w hSw; (go_simp <;> with_reducible rfl))
        (try simp only [Act.put, List.setIfInBounds_toArray, List.set_cons_zero, List.set_cons_succ])
        refine wpAnyH_take (i := 13) (oi := ?o1_13_14) (v := ?v1_13_14) ?i1_13_14 (by kernel_rfl) (by kernel_rfl) (by kernel_rfl) (fun _ _ _ h => h) (Or.inl ⟨?g1_13_14, ?y1_13_14⟩) hS ?_
        case i1_13_14 => simp only [List.getElem?_toArray, List.getElem?_cons_succ, List.getElem?_cons_zero]; rfl
        case g1_13_14 => rfl
        case y1_13_14 => (intro w hSw; (go_simp <;> with_reducible rfl))
        (try simp only [Act.put, List.setIfInBounds_toArray, List.set_cons_zero, List.set_cons_succ])
        refine wpAnyH_take (i := 14) (oi := ?o1_14_15) (v := ?v1_14_15) ?i1_14_15 (by kernel_rfl) (by kernel_rfl) (by kernel_rfl) (fun _ _ _ h => h) (Or.inl ⟨?g1_14_15, ?y1_14_15⟩) hS ?_
        case i1_14_15 => simp only [List.getElem?_toArray, List.getElem?_cons_succ, List.getElem?_cons_zero]; rfl
        case g1_14_15 => rfl
        case y1_14_15 => (intro w hSw; have q0 := (hSw.cell 0).trans rfl; have q1 := (hSw.cell 1).trans rfl; have q2 := (hSw.cell 2).trans rfl; have q3 := (hSw.cell 3).trans rfl; have q4 := (hSw.cell 4).trans rfl; have q5 := (hSw.cell 5).trans rfl; (go_simp <;> with_reducible rfl))
        (try simp only [Act.put, List.setIfInBounds_toArray, List.set_cons_zero, List.set_cons_succ])
        refine wpAnyH_ready (rs := [15]) (by kernel_rfl) (by simp) ?_
        refine (AllReadyH.cons (o := ?or1_16_15) ?ir1_16_15 (fun K hK => ?str1_16_15) AllReadyH.nil)
        case ir1_16_15 => simp only [List.getElem?_toArray, List.getElem?_cons_succ, List.getElem?_cons_zero]; rfl
        rw [if_pos (by rfl)]
        go_simp
        refine (HRt.out _ HBD.out).mono ?_
        rintro r w6 ⟨rfl, hb6⟩
        have HX6 := Lib.hid (HKD.out.below hb6 HKD.out.lt)
        have HP6 := Lib.hid (HPD.out.below hb6 HPD.out.lt)
        have HB6 := Lib.hid (HBD.out.trans (hb6.mono HBD.out.size))
        clear hb6
        go_wp2_with fail
        refine hK.out _ _ ?sr1_16_15 (fun hS => ?_)
        case sr1_16_15 => (exact HX6.out)
        clear hK K
        (try simp only [Act.put, List.setIfInBounds_toArray, List.set_cons_zero, List.set_cons_succ])
        refine wpAnyH_take (i := 16) (oi := ?o1_16_17) (v := ?v1_16_17) ?i1_16_17 (by kernel_rfl) (by kernel_rfl) (by kernel_rfl) (fun _ _ _ h => h) (Or.inl ⟨?g1_16_17, ?y1_16_17⟩) hS ?_
        case i1_16_17 => simp only [List.getElem?_toArray, List.getElem?_cons_succ, List.getElem?_cons_zero]; rfl
        case g1_16_17 => rfl
        case y1_16_17 => (intro w hSw; (go_simp <;> with_reducible rfl))
        (try simp only [Act.put, List.setIfInBounds_toArray, List.set_cons_zero, List.set_cons_succ])
        refine wpAnyH_take (i := 17) (oi := ?o1_17_18) (v := ?v1_17_18) ?i1_17_18 (by kernel_rfl) (by kernel_rfl) (by kernel_rfl) (fun _ _ _ h => h) (Or.inl ⟨?g1_17_18, ?y1_17_18⟩) hS ?_
        case i1_17_18 => simp only [List.getElem?_toArray, List.getElem?_cons_succ, List.getElem?_cons_zero]; rfl
        case g1_17_18 => rfl
        case y1_17_18 => (intro w hSw; (go_simp <;> with_reducible rfl))
        (try simp only [Act.put, List.setIfInBounds_toArray, List.set_cons_zero, List.set_cons_succ])
        refine wpAnyH_done (by kernel_rfl) ?_ _
        refine NoPanic.normal ?_
        clear hS
        cases rb with
        | false =>
          go_wp2
          go_ret
          exact ⟨by rw [HLx.out (by first | rfl | trivial)]; rfl, HB6.out⟩
        | true =>
          go_wp2
          go_roundw
          case rel => exact ⟨0 + 1, by omega, by go_num, Lib.hid (HL2.out (by first | rfl | trivial)), HP6.out, HB6.out⟩
          case measure => simp [intOf]; omega
      · obtain ⟨m, rfl⟩ : ∃ m, j = m + 1 := ⟨j - 1, by omega⟩
        obtain ⟨a0, k9, hg0⟩ := Fr.get_some (f := f) (n := m) (by omega)
        obtain ⟨b1, o1, A0, c0, ee, -, -, -, hrow0, hcl0⟩ := HK.out.at hg0
        injection ee with ee
        injection ee with e1 e2 e3
        subst e1 e2
        obtain ⟨lb, hlb⟩ : ∃ z, z = lessX a0 a1 := ⟨_, rfl⟩
        have hok2 : okAt f (m + 1) = (rb && lb) := by
          rw [hok, ← hrb, hlb]
          simp [hg0]
        have HLc : Hid (∀ W, Calls Try.prog 18 #[.agg #[.string (txt a0.name), .string (txt a0.key), .int .i64 a0.kind, .int .u64 (a0.num : Int), .string (txt a0.text), .slice A0 k9.len c0], .agg #[.string (txt a1.name), .string (txt a1.key), .int .i64 a1.kind, .int .u64 (a1.num : Int), .string (txt a1.text), .slice A' q.len c']] W (Ans9 (.bool lb) W)) := Lib.hid (fun W => by
          rw [hlb]; exact less_any a0 a1 _ _ _ rfl rfl)
        have HCD : Hid (∀ i u, (ndC a0 (.slice A0 k9.len c0))[i]? = some u → (wr.alloc (.cells #[.string (txt a1.name), .string (txt a1.key), .int .i64 a1.kind, .int .u64 (a1.num : Int), .string (txt a1.text), .slice A' q.len c'] 27)).drew.cell? ⟨b, o + m * 6 + i, none⟩ = some u) := Lib.hid (fun i u hu => (hBK.drew.cell (p := ⟨b, o + m * 6 + i, none⟩) hbl).trans (hcl0 i u hu))
        have n1 : (0 : Int) ≤ (m : Int) := by omega
        have n2 : (m : Int) < (f.len : Int) := by omega
        have n3 : decide ((m : Int) + 1 > 0) = true := decide_eq_true (by omega)
        have n4 : (0 : Int) < (m : Int) + 1 := by omega
        have n5 : (m : Int) + 1 < (f.len : Int) := by omega
        have HLx : Hid ((rb && lb) = false → rgtF f = false) := Lib.hid (fun h => right_none hlt (by rw [hok2, h]))
        have HL3 : Hid ((rb && lb) = true → ∀ n, n < m + 1 + 1 → okAt f n = true) := Lib.hid (fun h n hn => by
          by_cases e : n = m + 1
          · rw [e, hok2, h]
          · exact HL.out n (by omega))
        have jw : IntKind.i64.wrap (m : Int) = (m : Int) := Go.IntWalk.i64_in _ (by omega)
        have HJ := Lib.hid jw
        clear hcl hg hrow hcell hP hB hok hrb hbl hBK hbk hbp hcl0 hrow0 hg0 hlb hok2 hj0 jw
        cases lb with
        | false =>
          go_wp2_with fail
          clear q0 q1 q2 q3 q4 q5
          refine wp_region_noPanic ?_
          refine wp_region_held_drew (S := fun _ => True) (by kernel_rfl) trivial (fun hS => ?_)
          refine held_more (S' := fun w' => Blk w' w.heap.size 27 #[.string (txt nm), .string (txt ky), .int .i64 0, .int .u64 0, .string (txt []), .slice (some ⟨b, o, none⟩) f.len c] ∧ Blk w' wr.heap.size 27 #[.string (txt a1.name), .string (txt a1.key), .int .i64 a1.kind, .int .u64 (a1.num : Int), .string (txt a1.text), .slice A' q.len c'] ∧ ∀ i u, (ndC a0 (.slice A0 k9.len c0))[i]? = some u → w'.cell? ⟨b, o + m * 6 + i, none⟩ = some u) (fun _ _ => trivial) _ _ _ _ ?_
          replace hS := And.intro HPD.out (And.intro HKD.out HCD.out)
          refine wpAnyH_take (i := 0) (oi := ?o2_0_1) (v := ?v2_0_1) ?i2_0_1 (by kernel_rfl) (by kernel_rfl) (by kernel_rfl) (fun _ _ _ h => h) (Or.inl ⟨?g2_0_1, ?y2_0_1⟩) hS ?_
          case i2_0_1 => simp only [List.getElem?_toArray, List.getElem?_cons_succ, List.getElem?_cons_zero]; rfl
          case g2_0_1 => rfl
          case y2_0_1 => (intro w hSw; (go_simp <;> with_reducible rfl))
          (try simp only [Act.put, List.setIfInBounds_toArray, List.set_cons_zero, List.set_cons_succ])
          refine wpAnyH_take (i := 1) (oi := ?o2_1_2) (v := ?v2_1_2) ?i2_1_2 (by kernel_rfl) (by kernel_rfl) (by kernel_rfl) (fun _ _ _ h => h) (Or.inl ⟨?g2_1_2, ?y2_1_2⟩) hS ?_
          case i2_1_2 => simp only [List.getElem?_toArray, List.getElem?_cons_succ, List.getElem?_cons_zero]; rfl
          case g2_1_2 => rfl
          case y2_1_2 => (intro w hSw; (go_simp <;> with_reducible rfl))
          (try simp only [Act.put, List.setIfInBounds_toArray, List.set_cons_zero, List.set_cons_succ])
          refine wpAnyH_take (i := 2) (oi := ?o2_2_3) (v := ?v2_2_3) ?i2_2_3 (by kernel_rfl) (by kernel_rfl) (by kernel_rfl) (fun _ _ _ h => h) (Or.inl ⟨?g2_2_3, ?y2_2_3⟩) hS ?_
          case i2_2_3 => simp only [List.getElem?_toArray, List.getElem?_cons_succ, List.getElem?_cons_zero]; rfl
          case g2_2_3 => rfl
          case y2_2_3 => (intro w hSw; (go_simp <;> with_reducible rfl))
          (try simp only [Act.put, List.setIfInBounds_toArray, List.set_cons_zero, List.set_cons_succ])
          refine wpAnyH_take (i := 3) (oi := ?o2_3_4) (v := ?v2_3_4) ?i2_3_4 (by kernel_rfl) (by kernel_rfl) (by kernel_rfl) (fun _ _ _ h => h) (Or.inl ⟨?g2_3_4, ?y2_3_4⟩) hS ?_
          case i2_3_4 => simp only [List.getElem?_toArray, List.getElem?_cons_succ, List.getElem?_cons_zero]; rfl
          case g2_3_4 => rfl
          case y2_3_4 => (intro w hSw; (go_simp <;> with_reducible rfl))
          (try simp only [Act.put, List.setIfInBounds_toArray, List.set_cons_zero, List.set_cons_succ])
          refine wpAnyH_take (i := 4) (oi := ?o2_4_5) (v := ?v2_4_5) ?i2_4_5 (by kernel_rfl) (by kernel_rfl) (by kernel_rfl) (fun _ _ _ h => h) (Or.inl ⟨?g2_4_5, ?y2_4_5⟩) hS ?_
          case i2_4_5 => simp only [List.getElem?_toArray, List.getElem?_cons_succ, List.getElem?_cons_zero]; rfl
          case g2_4_5 => rfl
          case y2_4_5 => (intro w hSw; have q5 := (hSw.1.cell 5).trans rfl; (go_simp <;> with_reducible rfl))
          (try simp only [Act.put, List.setIfInBounds_toArray, List.set_cons_zero, List.set_cons_succ])
          refine wpAnyH_take (i := 5) (oi := ?o2_5_6) (v := ?v2_5_6) ?i2_5_6 (by kernel_rfl) (by kernel_rfl) (by kernel_rfl) (fun _ _ _ h => h) (Or.inl ⟨?g2_5_6, ?y2_5_6⟩) hS ?_
          case i2_5_6 => simp only [List.getElem?_toArray, List.getElem?_cons_succ, List.getElem?_cons_zero]; rfl
          case g2_5_6 => rfl
          case y2_5_6 => (intro w hSw; (go_simp <;> with_reducible rfl))
          (try simp only [Act.put, List.setIfInBounds_toArray, List.set_cons_zero, List.set_cons_succ])
          refine wpAnyH_take (i := 6) (oi := ?o2_6_7) (v := ?v2_6_7) ?i2_6_7 (by kernel_rfl) (by kernel_rfl) (by kernel_rfl) (fun _ _ _ h => h) (Or.inl ⟨?g2_6_7, ?y2_6_7⟩) hS ?_
          case i2_6_7 => simp only [List.getElem?_toArray, List.getElem?_cons_succ, List.getElem?_cons_zero]; rfl
          case g2_6_7 => rfl
          case y2_6_7 => (intro w hSw; have jw := HJ.out; (go_simp <;> with_reducible rfl))
          (try simp only [Act.put, List.setIfInBounds_toArray, List.set_cons_zero, List.set_cons_succ])
          refine wpAnyH_take (i := 7) (oi := ?o2_7_8) (v := ?v2_7_8) ?i2_7_8 (by kernel_rfl) (by kernel_rfl) (by kernel_rfl) (fun _ _ _ h => h) (Or.inl ⟨?g2_7_8, ?y2_7_8⟩) hS ?_
          case i2_7_8 => simp only [List.getElem?_toArray, List.getElem?_cons_succ, List.getElem?_cons_zero]; rfl
          case g2_7_8 => rfl
          case y2_7_8 => (intro w hSw; (go_simp <;> with_reducible rfl))
          (try simp only [Act.put, List.setIfInBounds_toArray, List.set_cons_zero, List.set_cons_succ])
          refine wpAnyH_take (i := 8) (oi := ?o2_8_9) (v := ?v2_8_9) ?i2_8_9 (by kernel_rfl) (by kernel_rfl) (by kernel_rfl) (fun _ _ _ h => h) (Or.inl ⟨?g2_8_9, ?y2_8_9⟩) hS ?_
          case i2_8_9 => simp only [List.getElem?_toArray, List.getElem?_cons_succ, List.getElem?_cons_zero]; rfl
          case g2_8_9 => rfl
          case y2_8_9 => (intro w hSw; have u0 : w.cell? ⟨b, o + m * 6, none⟩ = _ := hSw.2.2 0 _ rfl; have u1 := hSw.2.2 1 _ rfl; have u2 := hSw.2.2 2 _ rfl; have u3 := hSw.2.2 3 _ rfl; have u4 := hSw.2.2 4 _ rfl; have u5 := hSw.2.2 5 _ rfl; (go_simp <;> with_reducible rfl))
          (try simp only [Act.put, List.setIfInBounds_toArray, List.set_cons_zero, List.set_cons_succ])
          refine wpAnyH_take (i := 9) (oi := ?o2_9_10) (v := ?v2_9_10) ?i2_9_10 (by kernel_rfl) (by kernel_rfl) (by kernel_rfl) (fun _ _ _ h => h) (Or.inl ⟨?g2_9_10, ?y2_9_10⟩) hS ?_
          case i2_9_10 => simp only [List.getElem?_toArray, List.getElem?_cons_succ, List.getElem?_cons_zero]; rfl
          case g2_9_10 => rfl
          case y2_9_10 => (intro w hSw; have q0 := (hSw.2.1.cell 0).trans rfl; have q1 := (hSw.2.1.cell 1).trans rfl; have q2 := (hSw.2.1.cell 2).trans rfl; have q3 := (hSw.2.1.cell 3).trans rfl; have q4 := (hSw.2.1.cell 4).trans rfl; have q5 := (hSw.2.1.cell 5).trans rfl; (go_simp <;> with_reducible rfl))
          (try simp only [Act.put, List.setIfInBounds_toArray, List.set_cons_zero, List.set_cons_succ])
          refine wpAnyH_ready (rs := [10]) (by kernel_rfl) (by simp) ?_
          refine (AllReadyH.cons (o := ?or2_11_10) ?ir2_11_10 (fun K hK => ?str2_11_10) AllReadyH.nil)
          case ir2_11_10 => simp only [List.getElem?_toArray, List.getElem?_cons_succ, List.getElem?_cons_zero]; rfl
          rw [if_pos (by rfl)]
          go_simp
          refine (HLc.out _).mono ?_
          rintro r w5 ⟨rfl, hb5⟩
          have HX5 := Lib.hid (HKD.out.below hb5 HKD.out.lt)
          have HP5 := Lib.hid (HPD.out.below hb5 HPD.out.lt)
          have HB5 := Lib.hid (HBD.out.trans (hb5.mono HBD.out.size))
          have HC5 : Hid (∀ i u, (ndC a0 (.slice A0 k9.len c0))[i]? = some u → w5.cell? ⟨b, o + m * 6 + i, none⟩ = some u) := Lib.hid (fun i u hu => (hb5.cell (p := ⟨b, o + m * 6 + i, none⟩) (Nat.lt_of_lt_of_le HBL.out HBD.out.size)).trans (HCD.out i u hu))
          clear hb5
          go_wp2_with fail
          refine hK.out _ _ ?sr2_11_10 (fun hS => ?_)
          case sr2_11_10 => (exact ⟨HP5.out, HX5.out, HC5.out⟩)
          clear hK K
          (try simp only [Act.put, List.setIfInBounds_toArray, List.set_cons_zero, List.set_cons_succ])
          refine wpAnyH_take (i := 11) (oi := ?o2_11_12) (v := ?v2_11_12) ?i2_11_12 (by kernel_rfl) (by kernel_rfl) (by kernel_rfl) (fun _ _ _ h => h) (Or.inl ⟨?g2_11_12, ?y2_11_12⟩) hS ?_
          case i2_11_12 => simp only [List.getElem?_toArray, List.getElem?_cons_succ, List.getElem?_cons_zero]; rfl
          case g2_11_12 => rfl
          case y2_11_12 => (intro w hSw; (go_simp <;> with_reducible rfl))
          (try simp only [Act.put, List.setIfInBounds_toArray, List.set_cons_zero, List.set_cons_succ])
          refine wpAnyH_take (i := 12) (oi := ?o2_12_13) (v := ?v2_12_13) ?i2_12_13 (by kernel_rfl) (by kernel_rfl) (by kernel_rfl) (fun _ _ _ h => h) (Or.inl ⟨?g2_12_13, ?y2_12_13⟩) hS ?_
          case i2_12_13 => simp only [List.getElem?_toArray, List.getElem?_cons_succ, List.getElem?_cons_zero]; rfl
          case g2_12_13 => rfl
          case y2_12_13 => (intro w hSw; (go_simp <;> with_reducible rfl))
          (try simp only [Act.put, List.setIfInBounds_toArray, List.set_cons_zero, List.set_cons_succ])
          refine wpAnyH_take (i := 13) (oi := ?o2_13_14) (v := ?v2_13_14) ?i2_13_14 (by kernel_rfl) (by kernel_rfl) (by kernel_rfl) (fun _ _ _ h => h) (Or.inl ⟨?g2_13_14, ?y2_13_14⟩) hS ?_
          case i2_13_14 => simp only [List.getElem?_toArray, List.getElem?_cons_succ, List.getElem?_cons_zero]; rfl
          case g2_13_14 => rfl
          case y2_13_14 => (intro w hSw; (go_simp <;> with_reducible rfl))
          (try simp only [Act.put, List.setIfInBounds_toArray, List.set_cons_zero, List.set_cons_succ])
          refine wpAnyH_take (i := 14) (oi := ?o2_14_15) (v := undef) ?i2_14_15 (by kernel_rfl) (by kernel_rfl) (by kernel_rfl) (fun _ _ _ h => h) (Or.inr ⟨?g2_14_15, rfl⟩) hS ?_
          case i2_14_15 => simp only [List.getElem?_toArray, List.getElem?_cons_succ, List.getElem?_cons_zero]; rfl
          case g2_14_15 => rfl
          (try simp only [Act.put, List.setIfInBounds_toArray, List.set_cons_zero, List.set_cons_succ])
          refine wpAnyH_take (i := 15) (oi := ?o2_15_16) (v := undef) ?i2_15_16 (by kernel_rfl) (by kernel_rfl) (by kernel_rfl) (fun _ _ _ h => h) (Or.inr ⟨?g2_15_16, rfl⟩) hS ?_
          case i2_15_16 => simp only [List.getElem?_toArray, List.getElem?_cons_succ, List.getElem?_cons_zero]; rfl
          case g2_15_16 => rfl
          (try simp only [Act.put, List.setIfInBounds_toArray, List.set_cons_zero, List.set_cons_succ])
          refine wpAnyH_take (i := 16) (oi := ?o2_16_17) (v := undef) ?i2_16_17 (by kernel_rfl) (by kernel_rfl) (by kernel_rfl) (fun _ _ _ h => h) (Or.inr ⟨?g2_16_17, rfl⟩) hS ?_
          case i2_16_17 => simp only [List.getElem?_toArray, List.getElem?_cons_succ, List.getElem?_cons_zero]; rfl
          case g2_16_17 => rfl
          (try simp only [Act.put, List.setIfInBounds_toArray, List.set_cons_zero, List.set_cons_succ])
          refine wpAnyH_take (i := 17) (oi := ?o2_17_18) (v := ?v2_17_18) ?i2_17_18 (by kernel_rfl) (by kernel_rfl) (by kernel_rfl) (fun _ _ _ h => h) (Or.inl ⟨?g2_17_18, ?y2_17_18⟩) hS ?_
          case i2_17_18 => simp only [List.getElem?_toArray, List.getElem?_cons_succ, List.getElem?_cons_zero]; rfl
          case g2_17_18 => rfl
          case y2_17_18 => (intro w hSw; (go_simp <;> with_reducible rfl))
          (try simp only [Act.put, List.setIfInBounds_toArray, List.set_cons_zero, List.set_cons_succ])
          refine wpAnyH_done (by kernel_rfl) ?_ _
          refine NoPanic.normal ?_
          clear hS
          go_wp2
          go_ret
          exact ⟨by rw [HLx.out (by simp)]; rfl, HB5.out⟩
        | true =>
          go_wp2_with fail
          clear q0 q1 q2 q3 q4 q5
          refine wp_region_noPanic ?_
          refine wp_region_held_drew (S := fun _ => True) (by kernel_rfl) trivial (fun hS => ?_)
          refine held_more (S' := fun w' => Blk w' w.heap.size 27 #[.string (txt nm), .string (txt ky), .int .i64 0, .int .u64 0, .string (txt []), .slice (some ⟨b, o, none⟩) f.len c] ∧ Blk w' wr.heap.size 27 #[.string (txt a1.name), .string (txt a1.key), .int .i64 a1.kind, .int .u64 (a1.num : Int), .string (txt a1.text), .slice A' q.len c'] ∧ ∀ i u, (ndC a0 (.slice A0 k9.len c0))[i]? = some u → w'.cell? ⟨b, o + m * 6 + i, none⟩ = some u) (fun _ _ => trivial) _ _ _ _ ?_
          replace hS := And.intro HPD.out (And.intro HKD.out HCD.out)
          refine wpAnyH_take (i := 0) (oi := ?o3_0_1) (v := ?v3_0_1) ?i3_0_1 (by kernel_rfl) (by kernel_rfl) (by kernel_rfl) (fun _ _ _ h => h) (Or.inl ⟨?g3_0_1, ?y3_0_1⟩) hS ?_
          case i3_0_1 => simp only [List.getElem?_toArray, List.getElem?_cons_succ, List.getElem?_cons_zero]; rfl
          case g3_0_1 => rfl
          case y3_0_1 => (intro w hSw; (go_simp <;> with_reducible rfl))
          (try simp only [Act.put, List.setIfInBounds_toArray, List.set_cons_zero, List.set_cons_succ])
          refine wpAnyH_take (i := 1) (oi := ?o3_1_2) (v := ?v3_1_2) ?i3_1_2 (by kernel_rfl) (by kernel_rfl) (by kernel_rfl) (fun _ _ _ h => h) (Or.inl ⟨?g3_1_2, ?y3_1_2⟩) hS ?_
          case i3_1_2 => simp only [List.getElem?_toArray, List.getElem?_cons_succ, List.getElem?_cons_zero]; rfl
          case g3_1_2 => rfl
          case y3_1_2 => (intro w hSw; (go_simp <;> with_reducible rfl))
          (try simp only [Act.put, List.setIfInBounds_toArray, List.set_cons_zero, List.set_cons_succ])
          refine wpAnyH_take (i := 2) (oi := ?o3_2_3) (v := ?v3_2_3) ?i3_2_3 (by kernel_rfl) (by kernel_rfl) (by kernel_rfl) (fun _ _ _ h => h) (Or.inl ⟨?g3_2_3, ?y3_2_3⟩) hS ?_
          case i3_2_3 => simp only [List.getElem?_toArray, List.getElem?_cons_succ, List.getElem?_cons_zero]; rfl
          case g3_2_3 => rfl
          case y3_2_3 => (intro w hSw; (go_simp <;> with_reducible rfl))
          (try simp only [Act.put, List.setIfInBounds_toArray, List.set_cons_zero, List.set_cons_succ])
          refine wpAnyH_take (i := 3) (oi := ?o3_3_4) (v := ?v3_3_4) ?i3_3_4 (by kernel_rfl) (by kernel_rfl) (by kernel_rfl) (fun _ _ _ h => h) (Or.inl ⟨?g3_3_4, ?y3_3_4⟩) hS ?_
          case i3_3_4 => simp only [List.getElem?_toArray, List.getElem?_cons_succ, List.getElem?_cons_zero]; rfl
          case g3_3_4 => rfl
          case y3_3_4 => (intro w hSw; (go_simp <;> with_reducible rfl))
          (try simp only [Act.put, List.setIfInBounds_toArray, List.set_cons_zero, List.set_cons_succ])
          refine wpAnyH_take (i := 4) (oi := ?o3_4_5) (v := ?v3_4_5) ?i3_4_5 (by kernel_rfl) (by kernel_rfl) (by kernel_rfl) (fun _ _ _ h => h) (Or.inl ⟨?g3_4_5, ?y3_4_5⟩) hS ?_
          case i3_4_5 => simp only [List.getElem?_toArray, List.getElem?_cons_succ, List.getElem?_cons_zero]; rfl
          case g3_4_5 => rfl
          case y3_4_5 => (intro w hSw; have q5 := (hSw.1.cell 5).trans rfl; (go_simp <;> with_reducible rfl))
          (try simp only [Act.put, List.setIfInBounds_toArray, List.set_cons_zero, List.set_cons_succ])
          refine wpAnyH_take (i := 5) (oi := ?o3_5_6) (v := ?v3_5_6) ?i3_5_6 (by kernel_rfl) (by kernel_rfl) (by kernel_rfl) (fun _ _ _ h => h) (Or.inl ⟨?g3_5_6, ?y3_5_6⟩) hS ?_
          case i3_5_6 => simp only [List.getElem?_toArray, List.getElem?_cons_succ, List.getElem?_cons_zero]; rfl
          case g3_5_6 => rfl
          case y3_5_6 => (intro w hSw; (go_simp <;> with_reducible rfl))
          (try simp only [Act.put, List.setIfInBounds_toArray, List.set_cons_zero, List.set_cons_succ])
          refine wpAnyH_take (i := 6) (oi := ?o3_6_7) (v := ?v3_6_7) ?i3_6_7 (by kernel_rfl) (by kernel_rfl) (by kernel_rfl) (fun _ _ _ h => h) (Or.inl ⟨?g3_6_7, ?y3_6_7⟩) hS ?_
          case i3_6_7 => simp only [List.getElem?_toArray, List.getElem?_cons_succ, List.getElem?_cons_zero]; rfl
          case g3_6_7 => rfl
          case y3_6_7 => (intro w hSw; have jw := HJ.out; (go_simp <;> with_reducible rfl))
          (try simp only [Act.put, List.setIfInBounds_toArray, List.set_cons_zero, List.set_cons_succ])
          refine wpAnyH_take (i := 7) (oi := ?o3_7_8) (v := ?v3_7_8) ?i3_7_8 (by kernel_rfl) (by kernel_rfl) (by kernel_rfl) (fun _ _ _ h => h) (Or.inl ⟨?g3_7_8, ?y3_7_8⟩) hS ?_
          case i3_7_8 => simp only [List.getElem?_toArray, List.getElem?_cons_succ, List.getElem?_cons_zero]; rfl
          case g3_7_8 => rfl
          case y3_7_8 => (intro w hSw; (go_simp <;> with_reducible rfl))
          (try simp only [Act.put, List.setIfInBounds_toArray, List.set_cons_zero, List.set_cons_succ])
          refine wpAnyH_take (i := 8) (oi := ?o3_8_9) (v := ?v3_8_9) ?i3_8_9 (by kernel_rfl) (by kernel_rfl) (by kernel_rfl) (fun _ _ _ h => h) (Or.inl ⟨?g3_8_9, ?y3_8_9⟩) hS ?_
          case i3_8_9 => simp only [List.getElem?_toArray, List.getElem?_cons_succ, List.getElem?_cons_zero]; rfl
          case g3_8_9 => rfl
          case y3_8_9 => (intro w hSw; have u0 : w.cell? ⟨b, o + m * 6, none⟩ = _ := hSw.2.2 0 _ rfl; have u1 := hSw.2.2 1 _ rfl; have u2 := hSw.2.2 2 _ rfl; have u3 := hSw.2.2 3 _ rfl; have u4 := hSw.2.2 4 _ rfl; have u5 := hSw.2.2 5 _ rfl; (go_simp <;> with_reducible rfl))
          (try simp only [Act.put, List.setIfInBounds_toArray, List.set_cons_zero, List.set_cons_succ])
          refine wpAnyH_take (i := 9) (oi := ?o3_9_10) (v := ?v3_9_10) ?i3_9_10 (by kernel_rfl) (by kernel_rfl) (by kernel_rfl) (fun _ _ _ h => h) (Or.inl ⟨?g3_9_10, ?y3_9_10⟩) hS ?_
          case i3_9_10 => simp only [List.getElem?_toArray, List.getElem?_cons_succ, List.getElem?_cons_zero]; rfl
          case g3_9_10 => rfl
          case y3_9_10 => (intro w hSw; have q0 := (hSw.2.1.cell 0).trans rfl; have q1 := (hSw.2.1.cell 1).trans rfl; have q2 := (hSw.2.1.cell 2).trans rfl; have q3 := (hSw.2.1.cell 3).trans rfl; have q4 := (hSw.2.1.cell 4).trans rfl; have q5 := (hSw.2.1.cell 5).trans rfl; (go_simp <;> with_reducible rfl))
          (try simp only [Act.put, List.setIfInBounds_toArray, List.set_cons_zero, List.set_cons_succ])
          refine wpAnyH_ready (rs := [10]) (by kernel_rfl) (by simp) ?_
          refine (AllReadyH.cons (o := ?or3_11_10) ?ir3_11_10 (fun K hK => ?str3_11_10) AllReadyH.nil)
          case ir3_11_10 => simp only [List.getElem?_toArray, List.getElem?_cons_succ, List.getElem?_cons_zero]; rfl
          rw [if_pos (by rfl)]
          go_simp
          refine (HLc.out _).mono ?_
          rintro r w5 ⟨rfl, hb5⟩
          have HX5 := Lib.hid (HKD.out.below hb5 HKD.out.lt)
          have HP5 := Lib.hid (HPD.out.below hb5 HPD.out.lt)
          have HB5 := Lib.hid (HBD.out.trans (hb5.mono HBD.out.size))
          have HC5 : Hid (∀ i u, (ndC a0 (.slice A0 k9.len c0))[i]? = some u → w5.cell? ⟨b, o + m * 6 + i, none⟩ = some u) := Lib.hid (fun i u hu => (hb5.cell (p := ⟨b, o + m * 6 + i, none⟩) (Nat.lt_of_lt_of_le HBL.out HBD.out.size)).trans (HCD.out i u hu))
          clear hb5
          go_wp2_with fail
          refine hK.out _ _ ?sr3_11_10 (fun hS => ?_)
          case sr3_11_10 => (exact ⟨HP5.out, HX5.out, HC5.out⟩)
          clear hK K
          (try simp only [Act.put, List.setIfInBounds_toArray, List.set_cons_zero, List.set_cons_succ])
          refine wpAnyH_take (i := 11) (oi := ?o3_11_12) (v := ?v3_11_12) ?i3_11_12 (by kernel_rfl) (by kernel_rfl) (by kernel_rfl) (fun _ _ _ h => h) (Or.inl ⟨?g3_11_12, ?y3_11_12⟩) hS ?_
          case i3_11_12 => simp only [List.getElem?_toArray, List.getElem?_cons_succ, List.getElem?_cons_zero]; rfl
          case g3_11_12 => rfl
          case y3_11_12 => (intro w hSw; (go_simp <;> with_reducible rfl))
          (try simp only [Act.put, List.setIfInBounds_toArray, List.set_cons_zero, List.set_cons_succ])
          refine wpAnyH_take (i := 12) (oi := ?o3_12_13) (v := ?v3_12_13) ?i3_12_13 (by kernel_rfl) (by kernel_rfl) (by kernel_rfl) (fun _ _ _ h => h) (Or.inl ⟨?g3_12_13, ?y3_12_13⟩) hS ?_
          case i3_12_13 => simp only [List.getElem?_toArray, List.getElem?_cons_succ, List.getElem?_cons_zero]; rfl
          case g3_12_13 => rfl
          case y3_12_13 => (intro w hSw; (go_simp <;> with_reducible rfl))
          (try simp only [Act.put, List.setIfInBounds_toArray, List.set_cons_zero, List.set_cons_succ])
          refine wpAnyH_take (i := 13) (oi := ?o3_13_14) (v := ?v3_13_14) ?i3_13_14 (by kernel_rfl) (by kernel_rfl) (by kernel_rfl) (fun _ _ _ h => h) (Or.inl ⟨?g3_13_14, ?y3_13_14⟩) hS ?_
          case i3_13_14 => simp only [List.getElem?_toArray, List.getElem?_cons_succ, List.getElem?_cons_zero]; rfl
          case g3_13_14 => rfl
          case y3_13_14 => (intro w hSw; (go_simp <;> with_reducible rfl))
          (try simp only [Act.put, List.setIfInBounds_toArray, List.set_cons_zero, List.set_cons_succ])
          refine wpAnyH_take (i := 14) (oi := ?o3_14_15) (v := ?v3_14_15) ?i3_14_15 (by kernel_rfl) (by kernel_rfl) (by kernel_rfl) (fun _ _ _ h => h) (Or.inl ⟨?g3_14_15, ?y3_14_15⟩) hS ?_
          case i3_14_15 => simp only [List.getElem?_toArray, List.getElem?_cons_succ, List.getElem?_cons_zero]; rfl
          case g3_14_15 => rfl
          case y3_14_15 => (intro w hSw; have q0 := (hSw.2.1.cell 0).trans rfl; have q1 := (hSw.2.1.cell 1).trans rfl; have q2 := (hSw.2.1.cell 2).trans rfl; have q3 := (hSw.2.1.cell 3).trans rfl; have q4 := (hSw.2.1.cell 4).trans rfl; have q5 := (hSw.2.1.cell 5).trans rfl; (go_simp <;> with_reducible rfl))
          (try simp only [Act.put, List.setIfInBounds_toArray, List.set_cons_zero, List.set_cons_succ])
          refine wpAnyH_ready (rs := [15]) (by kernel_rfl) (by simp) ?_
          refine (AllReadyH.cons (o := ?or3_16_15) ?ir3_16_15 (fun K hK => ?str3_16_15) AllReadyH.nil)
          case ir3_16_15 => simp only [List.getElem?_toArray, List.getElem?_cons_succ, List.getElem?_cons_zero]; rfl
          rw [if_pos (by rfl)]
          go_simp
          refine (HRt.out _ HB5.out).mono ?_
          rintro r w6 ⟨rfl, hb6⟩
          have HX6 := Lib.hid (HX5.out.below hb6 HX5.out.lt)
          have HP6 := Lib.hid (HP5.out.below hb6 HP5.out.lt)
          have HB6 := Lib.hid (HB5.out.trans (hb6.mono HB5.out.size))
          have HC6 : Hid (∀ i u, (ndC a0 (.slice A0 k9.len c0))[i]? = some u → w6.cell? ⟨b, o + m * 6 + i, none⟩ = some u) := Lib.hid (fun i u hu => (hb6.cell (p := ⟨b, o + m * 6 + i, none⟩) (Nat.lt_of_lt_of_le HBL.out HB5.out.size)).trans (HC5.out i u hu))
          clear hb6
          go_wp2_with fail
          refine hK.out _ _ ?sr3_16_15 (fun hS => ?_)
          case sr3_16_15 => (exact ⟨HP6.out, HX6.out, HC6.out⟩)
          clear hK K
          (try simp only [Act.put, List.setIfInBounds_toArray, List.set_cons_zero, List.set_cons_succ])
          refine wpAnyH_take (i := 16) (oi := ?o3_16_17) (v := ?v3_16_17) ?i3_16_17 (by kernel_rfl) (by kernel_rfl) (by kernel_rfl) (fun _ _ _ h => h) (Or.inl ⟨?g3_16_17, ?y3_16_17⟩) hS ?_
          case i3_16_17 => simp only [List.getElem?_toArray, List.getElem?_cons_succ, List.getElem?_cons_zero]; rfl
          case g3_16_17 => rfl
          case y3_16_17 => (intro w hSw; (go_simp <;> with_reducible rfl))
          (try simp only [Act.put, List.setIfInBounds_toArray, List.set_cons_zero, List.set_cons_succ])
          refine wpAnyH_take (i := 17) (oi := ?o3_17_18) (v := ?v3_17_18) ?i3_17_18 (by kernel_rfl) (by kernel_rfl) (by kernel_rfl) (fun _ _ _ h => h) (Or.inl ⟨?g3_17_18, ?y3_17_18⟩) hS ?_
          case i3_17_18 => simp only [List.getElem?_toArray, List.getElem?_cons_succ, List.getElem?_cons_zero]; rfl
          case g3_17_18 => rfl
          case y3_17_18 => (intro w hSw; (go_simp <;> with_reducible rfl))
          (try simp only [Act.put, List.setIfInBounds_toArray, List.set_cons_zero, List.set_cons_succ])
          refine wpAnyH_done (by kernel_rfl) ?_ _
          refine NoPanic.normal ?_
          clear hS
          cases rb with
          | false =>
            go_wp2
            go_ret
            exact ⟨by rw [HLx.out (by first | rfl | trivial)]; rfl, HB6.out⟩
          | true =>
            go_wp2
            go_roundw
            case rel => exact ⟨m + 1 + 1, by omega, by go_num, Lib.hid (HL3.out (by first | rfl | trivial)), HP6.out, HB6.out⟩
            case measure => simp [intOf]; omega
    · have i2 : ¬ (j : Int) < (f.len : Int) := by omega
      have HF : Hid (rgtF f = true) := Lib.hid (right_at.2 (fun n hn => HL.out n (by omega)))
      clear hP hB
      go_wp2
      go_ret
      exact ⟨by rw [HF.out]; rfl, HBr.out⟩
theorem drightf_any (f : NdF) : DRightP f := by
  refine Fr.byKids (P := DRightP) ?_ f
  clear f
  intro f hkids a A c w hk hsz
  by_cases h0 : a.kind = 0
  · obtain ⟨nm, ky, kd, nu, tx⟩ := a
    simp only at h0
    subst h0
    by_cases h1 : nu = 0 ∧ tx = []
    · obtain ⟨rfl, rfl⟩ := h1
      have e : rgtX ((⟨nm, ky, 0, 0, []⟩ : NdD), f) = rgtF f := by unfold rgtX; simp
      rw [e]
      exact dright_row f hkids nm ky A c w hk hsz
    · have e : rgtX ((⟨nm, ky, 0, nu, tx⟩ : NdD), f) = false := by unfold rgtX; simp; intro h2 h3; exact absurd ⟨h2, h3⟩ h1
      rw [e]
      exact dright_box f nm ky nu tx A c w h1
  · exact dright_leaf f a A c w h0
theorem rightT (W0 : World) : RightTC W0 := by
  intro x cs w hx hf _
  obtain ⟨A, c, rfl, hk⟩ := hx.shape
  exact drightf_any x.2 x.1 A c w hk hf
end Go.Proofs.Ytgipnemcmiohlaa
namespace Go.Proofs.Ytgipnemcmiohlaa
open Go.RowKit
set_option linter.unusedSimpArgs false
set_option linter.unusedVariables false
set_option maxRecDepth 100000 in
set_option maxHeartbeats 2000000 in
theorem dsizef_any (f : NdF) : ∀ (a : NdD) (A : Option Addr) (c : Nat) (w : World), RowT w.heap.size w (.slice A f.len c) f → f.size ≤ 1000000 →
    Calls Try.prog 13 #[.agg #[.string (txt a.name), .string (txt a.key), .int .i64 a.kind, .int .u64 (a.num : Int), .string (txt a.text), .slice A f.len c]] w (Ans9 (.int .i64 ((f.size + 1 : Nat) : Int)) w) := by
  refine Fr.byKids (P := fun f => ∀ (a : NdD) (A : Option Addr) (c : Nat) (w : World), RowT w.heap.size w (.slice A f.len c) f → f.size ≤ 1000000 →
    Calls Try.prog 13 #[.agg #[.string (txt a.name), .string (txt a.key), .int .i64 a.kind, .int .u64 (a.num : Int), .string (txt a.text), .slice A f.len c]] w (Ans9 (.int .i64 ((f.size + 1 : Nat) : Int)) w)) ?_ f
  clear f
  intro f hkids a A c w hk hsz
  have hB : Below w.heap.size w (w.alloc (.cells #[.string (txt a.name), .string (txt a.key), .int .i64 a.kind, .int .u64 (a.num : Int), .string (txt a.text), .slice A f.len c] 27)) := (Below.refl _ _).alloc (Nat.le_refl _) _
  have HB0 := Lib.hid hB
  have HI := Lib.hid hkids
  have HK : Hid (RowT w.heap.size w (.slice A f.len c) f) := Lib.hid hk
  have HZ : Hid (f.size ≤ 1000000) := Lib.hid hsz
  clear hkids hk hsz hB
  go_enter Try.func13, Try.ntmps13
  go_wp2
  go_loopw [3, 9] (fun m i wr => ∃ (j s : Nat), j ≤ f.len ∧ i = .int .i64 (j : Int) ∧ m = .int .i64 (s : Int) ∧ Hid (s = (Fr.take j f).size + 1) ∧ Blk wr w.heap.size 27 #[.string (txt a.name), .string (txt a.key), .int .i64 a.kind, .int .u64 (a.num : Int), .string (txt a.text), .slice A f.len c] ∧ Below w.heap.size w wr) (fun _ i _ => f.len - (intOf i).toNat)
  case atStart => exact ⟨0, 1, Nat.zero_le _, rfl, rfl, Lib.hid (by simp [Fr.take, Fr.size]), Blk.new _ _ _, HB0.out⟩
  case round =>
    obtain ⟨j, s, hj, rfl, rfl, HS, hP, hB⟩ := hrel
    have HBr := Lib.hid hB
    by_cases hlt : j < f.len
    · obtain ⟨a1, q, hg⟩ := Fr.get_some hlt
      obtain ⟨b, o, A', c', rfl, -, -, hbl, hrow, hcl⟩ := HK.out.at hg
      have hcell : ∀ i u, (ndC a1 (.slice A' q.len c'))[i]? = some u → wr.cell? ⟨b, o + j * 6 + i, none⟩ = some u := fun i u hu => (hB.cell (p := ⟨b, o + j * 6 + i, none⟩) hbl).trans (hcl i u hu)
      have q0 : (wr).cell? ⟨b, o + j * 6, none⟩ = _ := hcell 0 _ rfl
      have q1 : (wr).cell? ⟨b, o + j * 6 + 1, none⟩ = _ := hcell 1 _ rfl
      have q2 : (wr).cell? ⟨b, o + j * 6 + 2, none⟩ = _ := hcell 2 _ rfl
      have q3 : (wr).cell? ⟨b, o + j * 6 + 3, none⟩ = _ := hcell 3 _ rfl
      have q4 : (wr).cell? ⟨b, o + j * 6 + 4, none⟩ = _ := hcell 4 _ rfl
      have q5 : (wr).cell? ⟨b, o + j * 6 + 5, none⟩ = _ := hcell 5 _ rfl
      have i1 : (0 : Int) ≤ (j : Int) := by omega
      have i2 : (j : Int) < (f.len : Int) := by omega
      have i3 : (f.len : Int) ≤ 1000000 := by have := HZ.out; have := Fr.len_size f; omega
      have hts : (Fr.take (j + 1) f).size = (Fr.take j f).size + (q.size + 1) := by
        rw [(Fr.get_drop hg).2, Fr.size_app]; simp [Fr.size]
      have hle : (Fr.take (j + 1) f).size ≤ f.size := by
        have := congrArg Fr.size (Fr.take_app_drop (j + 1) f); rw [Fr.size_app] at this; omega
      obtain ⟨z, hz⟩ : ∃ z, z = q.size + 1 := ⟨_, rfl⟩
      have hBK : Below w.heap.size w (wr.alloc (.cells #[.string (txt a1.name), .string (txt a1.key), .int .i64 a1.kind, .int .u64 (a1.num : Int), .string (txt a1.text), .slice A' q.len c'] 27)) := hB.alloc hB.size _
      have HI1 : Hid (Calls Try.prog 13 #[.agg #[.string (txt a1.name), .string (txt a1.key), .int .i64 a1.kind, .int .u64 (a1.num : Int), .string (txt a1.text), .slice A' q.len c']] (wr.alloc (.cells #[.string (txt a1.name), .string (txt a1.key), .int .i64 a1.kind, .int .u64 (a1.num : Int), .string (txt a1.text), .slice A' q.len c'] 27)) (Ans9 (.int .i64 (z : Int)) (wr.alloc (.cells #[.string (txt a1.name), .string (txt a1.key), .int .i64 a1.kind, .int .u64 (a1.num : Int), .string (txt a1.text), .slice A' q.len c'] 27)))) := Lib.hid (by
        rw [hz]; exact HI.out j a1 q hg a1 A' c' (wr.alloc (.cells #[.string (txt a1.name), .string (txt a1.key), .int .i64 a1.kind, .int .u64 (a1.num : Int), .string (txt a1.text), .slice A' q.len c'] 27)) (hrow.under hBK (Nat.le_refl _) hBK.size) (by have := HZ.out; omega))
      have i4 : (0 : Int) ≤ (s : Int) := by omega
      have i5 : (s : Int) ≤ 1000001 := by have := HS.out; have := HZ.out; omega
      have i6 : (0 : Int) ≤ (z : Int) := by omega
      have i7 : (z : Int) ≤ 1000001 := by have := HZ.out; omega
      have HS2 : Hid (s + z = (Fr.take (j + 1) f).size + 1) := Lib.hid (by have := HS.out; omega)
      have HP := Lib.hid (hP.alloc (.cells #[.string (txt a1.name), .string (txt a1.key), .int .i64 a1.kind, .int .u64 (a1.num : Int), .string (txt a1.text), .slice A' q.len c'] 27))
      have HBK := Lib.hid hBK
      clear hcl hg hrow hcell hts hle hz hP hB hbl hBK
      go_wp2_with fail
      refine HI1.out.mono ?_
      rintro r w2 ⟨rfl, hb⟩
      have HP2 := Lib.hid (HP.out.below hb HP.out.lt)
      have HB2 := Lib.hid (HBK.out.trans (hb.mono HBK.out.size))
      clear hb
      go_wp2
      go_roundw
      case rel => exact ⟨j + 1, s + z, by omega, by go_num, by go_num, HS2, HP2.out, HB2.out⟩
      case measure => simp [intOf]; omega
    · have i2 : ¬ (j : Int) < (f.len : Int) := by omega
      have HF : Hid (s = f.size + 1) := Lib.hid (by have := HS.out; rw [show j = f.len by omega, Fr.take_all] at this; exact this)
      clear hP hB
      go_wp2
      go_ret
      exact ⟨by rw [HF.out]; rfl, HBr.out⟩
theorem sizeT (W0 : World) : SizeTC W0 := by
  intro x cs w hx hf _
  obtain ⟨A, c, rfl, hk⟩ := hx.shape
  exact dsizef_any x.2 x.1 A c w hk hf
def set5 (w : World) (b : Nat) (x0 x1 x2 x3 x4 : Value) : World := ((((w.setCell ⟨b, 0, none⟩ x0).setCell ⟨b, 1, none⟩ x1).setCell ⟨b, 2, none⟩ x2).setCell ⟨b, 3, none⟩ x3).setCell ⟨b, 4, none⟩ x4
theorem Blk.set5 {w : World} {b : Nat} {t : TypeId} {y0 y1 y2 y3 y4 : Value} (h : Blk w b t #[y0, y1, y2, y3, y4]) (x0 x1 x2 x3 x4 : Value) : Blk (set5 w b x0 x1 x2 x3 x4) b t #[x0, x1, x2, x3, x4] := by
  have h2 := (((((h).set_ 0 x0).set_ 1 x1).set_ 2 x2).set_ 3 x3).set_ 4 x4
  simp only [List.setIfInBounds_toArray, List.set_cons_zero, List.set_cons_succ] at h2
  exact h2
theorem set5_below {B : Nat} {w : World} {b : Nat} {x0 x1 x2 x3 x4 : Value} (h : B ≤ b) : Below B w (set5 w b x0 x1 x2 x3 x4) :=
  (((((Below.refl B w).setCell (p := ⟨b, 0, none⟩) h x0).setCell (p := ⟨b, 1, none⟩) h x1).setCell (p := ⟨b, 2, none⟩) h x2).setCell (p := ⟨b, 3, none⟩) h x3).setCell (p := ⟨b, 4, none⟩) h x4
theorem set5_other {w : World} {b g : Nat} {x0 x1 x2 x3 x4 : Value} (h : g ≠ b) : (set5 w b x0 x1 x2 x3 x4).heap[g]? = w.heap[g]? := by
  unfold set5
  rw [Below.heap_setCell _ _ _ _ h, Below.heap_setCell _ _ _ _ h, Below.heap_setCell _ _ _ _ h, Below.heap_setCell _ _ _ _ h, Below.heap_setCell _ _ _ _ h]
set_option maxRecDepth 100000 in
set_option maxHeartbeats 2000000 in
theorem headof_any (a : NdD) (u : Value) (w : World) :
    Calls Try.prog 31 #[.agg #[.string (txt a.name), .string (txt a.key), .int .i64 a.kind, .int .u64 (a.num : Int), .string (txt a.text), u]] w (Ans9 (.agg #[.string (txt a.name), .string (txt a.key), .int .i64 a.kind, .int .u64 (a.num : Int), .string (txt a.text)]) w) := by
  have HX : Hid (Blk ((w.alloc (.cells #[.string (txt a.name), .string (txt a.key), .int .i64 a.kind, .int .u64 (a.num : Int), .string (txt a.text), u] 27)).alloc (.cells #[.string ⟨#[]⟩, .string ⟨#[]⟩, .int .i64 0, .int .u64 0, .string ⟨#[]⟩] 49)).drew w.heap.size 27 #[.string (txt a.name), .string (txt a.key), .int .i64 a.kind, .int .u64 (a.num : Int), .string (txt a.text), u]) := Lib.hid ((Blk.new w 27 #[.string (txt a.name), .string (txt a.key), .int .i64 a.kind, .int .u64 (a.num : Int), .string (txt a.text), u]).alloc (.cells #[.string ⟨#[]⟩, .string ⟨#[]⟩, .int .i64 0, .int .u64 0, .string ⟨#[]⟩] 49))
  have HH : Hid (Blk ((w.alloc (.cells #[.string (txt a.name), .string (txt a.key), .int .i64 a.kind, .int .u64 (a.num : Int), .string (txt a.text), u] 27)).alloc (.cells #[.string ⟨#[]⟩, .string ⟨#[]⟩, .int .i64 0, .int .u64 0, .string ⟨#[]⟩] 49)).drew (w.heap.size + 1) 49 #[.string ⟨#[]⟩, .string ⟨#[]⟩, .int .i64 0, .int .u64 0, .string ⟨#[]⟩]) := Lib.hid (show Blk ((w.alloc (.cells #[.string (txt a.name), .string (txt a.key), .int .i64 a.kind, .int .u64 (a.num : Int), .string (txt a.text), u] 27)).alloc (.cells #[.string ⟨#[]⟩, .string ⟨#[]⟩, .int .i64 0, .int .u64 0, .string ⟨#[]⟩] 49)) (w.heap.size + 1) 49 #[.string ⟨#[]⟩, .string ⟨#[]⟩, .int .i64 0, .int .u64 0, .string ⟨#[]⟩] from Blk.newA (by simp) _ _)
  have HB : Hid (Below w.heap.size w ((w.alloc (.cells #[.string (txt a.name), .string (txt a.key), .int .i64 a.kind, .int .u64 (a.num : Int), .string (txt a.text), u] 27)).alloc (.cells #[.string ⟨#[]⟩, .string ⟨#[]⟩, .int .i64 0, .int .u64 0, .string ⟨#[]⟩] 49)).drew) := Lib.hid (((Below.refl _ _).alloc (Nat.le_refl _) _).alloc (by simp) _).drew
  go_enter Try.func31, Try.ntmps31
  go_wp2_with fail
  refine wp_region_noPanic ?_
  refine wp_region_held_drew (S := fun _ => True) (by kernel_rfl) trivial (fun hS => ?_)
  refine held_more (S' := fun w' => Blk w' w.heap.size 27 #[.string (txt a.name), .string (txt a.key), .int .i64 a.kind, .int .u64 (a.num : Int), .string (txt a.text), u]) (fun _ _ => trivial) _ _ _ _ ?_
  replace hS := HX.out
  refine wpAnyH_take (i := 0) (oi := ?o1_0_1) (v := ?v1_0_1) ?i1_0_1 (by kernel_rfl) (by kernel_rfl) (by kernel_rfl) (fun _ _ _ h => h) (Or.inl ⟨?g1_0_1, ?y1_0_1⟩) hS ?_
  case i1_0_1 => simp only [List.getElem?_toArray, List.getElem?_cons_succ, List.getElem?_cons_zero]; rfl
  case g1_0_1 => rfl
  case y1_0_1 => (intro w hSw; have q0 := (hSw.cell 0).trans rfl; have q1 := (hSw.cell 1).trans rfl; have q2 := (hSw.cell 2).trans rfl; have q3 := (hSw.cell 3).trans rfl; have q4 := (hSw.cell 4).trans rfl; have q5 := (hSw.cell 5).trans rfl; (go_simp <;> with_reducible rfl))
  (try simp only [Act.put, List.setIfInBounds_toArray, List.set_cons_zero, List.set_cons_succ])
  refine wpAnyH_take (i := 2) (oi := ?o1_2_2) (v := ?v1_2_2) ?i1_2_2 (by kernel_rfl) (by kernel_rfl) (by kernel_rfl) (fun _ _ _ h => h) (Or.inl ⟨?g1_2_2, ?y1_2_2⟩) hS ?_
  case i1_2_2 => simp only [List.getElem?_toArray, List.getElem?_cons_succ, List.getElem?_cons_zero]; rfl
  case g1_2_2 => rfl
  case y1_2_2 => (intro w hSw; (go_simp <;> with_reducible rfl))
  (try simp only [Act.put, List.setIfInBounds_toArray, List.set_cons_zero, List.set_cons_succ])
  refine wpAnyH_take (i := 3) (oi := ?o1_3_3) (v := ?v1_3_3) ?i1_3_3 (by kernel_rfl) (by kernel_rfl) (by kernel_rfl) (fun _ _ _ h => h) (Or.inl ⟨?g1_3_3, ?y1_3_3⟩) hS ?_
  case i1_3_3 => simp only [List.getElem?_toArray, List.getElem?_cons_succ, List.getElem?_cons_zero]; rfl
  case g1_3_3 => rfl
  case y1_3_3 => (intro w hSw; have q0 := (hSw.cell 0).trans rfl; have q1 := (hSw.cell 1).trans rfl; have q2 := (hSw.cell 2).trans rfl; have q3 := (hSw.cell 3).trans rfl; have q4 := (hSw.cell 4).trans rfl; have q5 := (hSw.cell 5).trans rfl; (go_simp <;> with_reducible rfl))
  (try simp only [Act.put, List.setIfInBounds_toArray, List.set_cons_zero, List.set_cons_succ])
  refine wpAnyH_ready (rs := [1]) (by kernel_rfl) (by simp) ?_
  refine (AllReadyH.cons (o := ?or1_4_1) ?ir1_4_1 (fun K hK => ?str1_4_1) AllReadyH.nil)
  case ir1_4_1 => simp only [List.getElem?_toArray, List.getElem?_cons_succ, List.getElem?_cons_zero]; rfl
  rw [if_pos (by rfl)]
  go_simp
  refine (stepof_any a u _).mono ?_
  rintro r w3 ⟨rfl, hb3⟩
  have HX3 := Lib.hid (HX.out.below hb3 HX.out.lt)
  have HH3 := Lib.hid (HH.out.below hb3 HH.out.lt)
  have HB3 := Lib.hid (HB.out.trans (hb3.mono HB.out.size))
  clear hb3
  go_wp2_with fail
  refine hK.out _ _ ?sr1_4_1 (fun hS => ?_)
  case sr1_4_1 => (exact HX3.out)
  clear hK K
  (try simp only [Act.put, List.setIfInBounds_toArray, List.set_cons_zero, List.set_cons_succ])
  refine wpAnyH_take (i := 4) (oi := ?o1_4_5) (v := ?v1_4_5) ?i1_4_5 (by kernel_rfl) (by kernel_rfl) (by kernel_rfl) (fun _ _ _ h => h) (Or.inl ⟨?g1_4_5, ?y1_4_5⟩) hS ?_
  case i1_4_5 => simp only [List.getElem?_toArray, List.getElem?_cons_succ, List.getElem?_cons_zero]; rfl
  case g1_4_5 => rfl
  case y1_4_5 => (intro w hSw; (go_simp <;> with_reducible rfl))
  (try simp only [Act.put, List.setIfInBounds_toArray, List.set_cons_zero, List.set_cons_succ])
  refine wpAnyH_ready (rs := [5]) (by kernel_rfl) (by simp) ?_
  refine (AllReadyH.cons (o := ?or1_6_5) ?ir1_6_5 (fun K hK => ?str1_6_5) AllReadyH.nil)
  case ir1_6_5 => simp only [List.getElem?_toArray, List.getElem?_cons_succ, List.getElem?_cons_zero]; rfl
  rw [if_pos (by rfl)]
  have fz0 : (w3).frozen? ⟨w.heap.size + 1, 0, none⟩ = false := HH3.out.frozen 0
  have fz1 : (w3).frozen? ⟨w.heap.size + 1, 1, none⟩ = false := HH3.out.frozen 1
  have fz2 : (w3).frozen? ⟨w.heap.size + 1, 2, none⟩ = false := HH3.out.frozen 2
  have fz3 : (w3).frozen? ⟨w.heap.size + 1, 3, none⟩ = false := HH3.out.frozen 3
  have fz4 : (w3).frozen? ⟨w.heap.size + 1, 4, none⟩ = false := HH3.out.frozen 4
  have fq0 := (HH3.out.cell 0).trans rfl
  have fq1 := (HH3.out.cell 1).trans rfl
  have fq2 := (HH3.out.cell 2).trans rfl
  have fq3 := (HH3.out.cell 3).trans rfl
  have fq4 := (HH3.out.cell 4).trans rfl
  go_simp
  refine hK.out _ _ ?sr1_6_5 (fun hS => ?_)
  case sr1_6_5 => (exact (set5_other (w := w3) (b := w.heap.size + 1) (by omega)).trans HX3.out)
  clear hK K
  (try simp only [Act.put, List.setIfInBounds_toArray, List.set_cons_zero, List.set_cons_succ])
  refine wpAnyH_done (by kernel_rfl) ?_ _
  refine NoPanic.normal ?_
  clear hS
  have RZ : Hid (Blk (set5 w3 (w.heap.size + 1) (.string (txt a.name)) (.string (txt a.key)) (.int .i64 a.kind) (.int .u64 (a.num : Int)) (.string (txt a.text))) (w.heap.size + 1) 49 #[.string (txt a.name), .string (txt a.key), .int .i64 a.kind, .int .u64 (a.num : Int), .string (txt a.text)]) := Lib.hid (HH3.out.set5 _ _ _ _ _)
  have HZ : Hid (Below w.heap.size w (set5 w3 (w.heap.size + 1) (.string (txt a.name)) (.string (txt a.key)) (.int .i64 a.kind) (.int .u64 (a.num : Int)) (.string (txt a.text)))) := Lib.hid (HB3.out.trans (set5_below (by omega)))
  go_wp2
  refine bodyPost_ret (results_cell_row rfl _ _ (w.heap.size + 1) 49 _ (0, 0) _ rfl RZ.out Try.underlying49 rfl (by kernel_rfl)) rfl ?_
  exact ⟨rfl, HZ.out⟩
def DSameP (f : NdF) : Prop := ∀ (g : NdF) (a b : NdD) (A B : Option Addr) (c d : Nat) (w : World), RowT w.heap.size w (.slice A f.len c) f → RowT w.heap.size w (.slice B g.len d) g → f.size ≤ 1000000 → g.size ≤ 1000000 →
    Calls Try.prog 17 #[.agg #[.string (txt a.name), .string (txt a.key), .int .i64 a.kind, .int .u64 (a.num : Int), .string (txt a.text), .slice A f.len c], .agg #[.string (txt b.name), .string (txt b.key), .int .i64 b.kind, .int .u64 (b.num : Int), .string (txt b.text), .slice B g.len d]] w (Ans9 (.bool (decide (((a, f) : Nd) = (b, g)))) w)
set_option maxRecDepth 100000 in
set_option maxHeartbeats 1000000 in
theorem equalf_len (A B : Option Addr) (m n c d : Nat) (fv : Value) (w : World) (h : m ≠ n) :
    Calls Try.prog 32 #[.slice A m c, .slice B n d, fv] w (Ans9 (.bool false) w) := by
  have HB : Hid (Below w.heap.size w w) := Lib.hid (Below.refl _ _)
  have e1 : (m == n) = false := beq_eq_false_iff_ne.2 h
  have e2 : ((m : Int) == (n : Int)) = false := by rw [beq_eq_false_iff_ne]; omega
  have e3 : (m != n) = true := by simp [h]
  clear h
  go_enter Try.func32, Try.ntmps32
  go_wp2
  go_ret
  exact ⟨rfl, HB.out⟩
set_option maxRecDepth 100000 in
set_option maxHeartbeats 2000000 in
theorem equalf_row (f g : NdF) (hkids : ∀ n a k, f.get? n = some (a, k) → DSameP k) (A B : Option Addr) (c d L : Nat) (w : World) (hf : RowT w.heap.size w (.slice A L c) f) (hg : RowT w.heap.size w (.slice B L d) g) (hsf : f.size ≤ 1000000) (hsg : g.size ≤ 1000000) :
    Calls Try.prog 32 #[.slice A L c, .slice B L d, .func (.func 17) #[] #[]] w (Ans9 (.bool (decide (f = g))) w) := by
  have HI := Lib.hid hkids
  have HKF : Hid (RowT w.heap.size w (.slice A L c) f) := Lib.hid hf
  have HKG : Hid (RowT w.heap.size w (.slice B L d) g) := Lib.hid hg
  have HZ := Lib.hid (And.intro hsf hsg)
  have HLF : Hid (L = f.len) := Lib.hid hf.len.1
  have HLG : Hid (L = g.len) := Lib.hid hg.len.1
  have i3 : (L : Int) ≤ 1000000 := by have := HLF.out; have := Fr.len_size f; omega
  clear hkids hf hg hsf hsg
  go_enter Try.func32, Try.ntmps32
  go_wp2
  go_loopw [17] (fun i wr => ∃ j : Nat, j ≤ L ∧ i = .int .i64 (j : Int) ∧ Hid (∀ n, n < j → f.get? n = g.get? n) ∧ Below w.heap.size w wr) (fun i _ => L - (intOf i).toNat)
  case atStart => exact ⟨0, Nat.zero_le _, rfl, Lib.hid (fun n h => by omega), Below.refl _ _⟩
  case round =>
    obtain ⟨j, hj, rfl, HL, hB⟩ := hrel
    have HBr := Lib.hid hB
    by_cases hlt : j < L
    · obtain ⟨a1, q1, hg1⟩ := Fr.get_some (f := f) (n := j) (by have := HLF.out; omega)
      obtain ⟨a2, q2, hg2⟩ := Fr.get_some (f := g) (n := j) (by have := HLG.out; omega)
      obtain ⟨b1, o1, A1, c1, rfl, -, -, hbl1, hrow1, hcl1⟩ := HKF.out.at hg1
      obtain ⟨b2, o2, A2, c2, rfl, -, -, hbl2, hrow2, hcl2⟩ := HKG.out.at hg2
      have i1 : (0 : Int) ≤ (j : Int) := by omega
      have i2 : (j : Int) < (L : Int) := by omega
      obtain ⟨rb, hrb⟩ : ∃ z, z = decide (((a1, q1) : Nd) = (a2, q2)) := ⟨_, rfl⟩
      have hBA : Below w.heap.size w (wr.alloc (.cells #[.string (txt a1.name), .string (txt a1.key), .int .i64 a1.kind, .int .u64 (a1.num : Int), .string (txt a1.text), .slice A1 q1.len c1] 27)) := hB.alloc hB.size _
      have hBB : Below w.heap.size w ((wr.alloc (.cells #[.string (txt a1.name), .string (txt a1.key), .int .i64 a1.kind, .int .u64 (a1.num : Int), .string (txt a1.text), .slice A1 q1.len c1] 27)).alloc (.cells #[.string (txt a2.name), .string (txt a2.key), .int .i64 a2.kind, .int .u64 (a2.num : Int), .string (txt a2.text), .slice A2 q2.len c2] 27)) := hBA.alloc hBA.size _
      have HI1 : Hid (Calls Try.prog 17 #[.agg #[.string (txt a1.name), .string (txt a1.key), .int .i64 a1.kind, .int .u64 (a1.num : Int), .string (txt a1.text), .slice A1 q1.len c1], .agg #[.string (txt a2.name), .string (txt a2.key), .int .i64 a2.kind, .int .u64 (a2.num : Int), .string (txt a2.text), .slice A2 q2.len c2]] ((wr.alloc (.cells #[.string (txt a1.name), .string (txt a1.key), .int .i64 a1.kind, .int .u64 (a1.num : Int), .string (txt a1.text), .slice A1 q1.len c1] 27)).alloc (.cells #[.string (txt a2.name), .string (txt a2.key), .int .i64 a2.kind, .int .u64 (a2.num : Int), .string (txt a2.text), .slice A2 q2.len c2] 27)) (Ans9 (.bool rb) ((wr.alloc (.cells #[.string (txt a1.name), .string (txt a1.key), .int .i64 a1.kind, .int .u64 (a1.num : Int), .string (txt a1.text), .slice A1 q1.len c1] 27)).alloc (.cells #[.string (txt a2.name), .string (txt a2.key), .int .i64 a2.kind, .int .u64 (a2.num : Int), .string (txt a2.text), .slice A2 q2.len c2] 27)))) := Lib.hid (by
        rw [hrb]
        exact HI.out j a1 q1 hg1 q2 a1 a2 A1 A2 c1 c2 ((wr.alloc (.cells #[.string (txt a1.name), .string (txt a1.key), .int .i64 a1.kind, .int .u64 (a1.num : Int), .string (txt a1.text), .slice A1 q1.len c1] 27)).alloc (.cells #[.string (txt a2.name), .string (txt a2.key), .int .i64 a2.kind, .int .u64 (a2.num : Int), .string (txt a2.text), .slice A2 q2.len c2] 27)) (hrow1.under hBB (Nat.le_refl _) hBB.size) (hrow2.under hBB (Nat.le_refl _) hBB.size) (by have := HZ.out.1; have := Fr.size_get hg1; omega) (by have := HZ.out.2; have := Fr.size_get hg2; omega))
      have hcell : ∀ i u, (ndC a1 (.slice A1 q1.len c1))[i]? = some u → wr.cell? ⟨b1, o1 + j * 6 + i, none⟩ = some u := fun i u hu => (hB.cell (p := ⟨b1, o1 + j * 6 + i, none⟩) hbl1).trans (hcl1 i u hu)
      have hcel2 : ∀ i u, (ndC a2 (.slice A2 q2.len c2))[i]? = some u → (wr.alloc (.cells #[.string (txt a1.name), .string (txt a1.key), .int .i64 a1.kind, .int .u64 (a1.num : Int), .string (txt a1.text), .slice A1 q1.len c1] 27)).cell? ⟨b2, o2 + j * 6 + i, none⟩ = some u := fun i u hu => (hBA.cell (p := ⟨b2, o2 + j * 6 + i, none⟩) hbl2).trans (hcl2 i u hu)
      have s0 : (wr).cell? ⟨b1, o1 + j * 6, none⟩ = _ := hcell 0 _ rfl
      have s1 : (wr).cell? ⟨b1, o1 + j * 6 + 1, none⟩ = _ := hcell 1 _ rfl
      have s2 : (wr).cell? ⟨b1, o1 + j * 6 + 2, none⟩ = _ := hcell 2 _ rfl
      have s3 : (wr).cell? ⟨b1, o1 + j * 6 + 3, none⟩ = _ := hcell 3 _ rfl
      have s4 : (wr).cell? ⟨b1, o1 + j * 6 + 4, none⟩ = _ := hcell 4 _ rfl
      have s5 : (wr).cell? ⟨b1, o1 + j * 6 + 5, none⟩ = _ := hcell 5 _ rfl
      have p0 : (wr.alloc (.cells #[.string (txt a1.name), .string (txt a1.key), .int .i64 a1.kind, .int .u64 (a1.num : Int), .string (txt a1.text), .slice A1 q1.len c1] 27)).cell? ⟨b2, o2 + j * 6, none⟩ = _ := hcel2 0 _ rfl
      have p1 : (wr.alloc (.cells #[.string (txt a1.name), .string (txt a1.key), .int .i64 a1.kind, .int .u64 (a1.num : Int), .string (txt a1.text), .slice A1 q1.len c1] 27)).cell? ⟨b2, o2 + j * 6 + 1, none⟩ = _ := hcel2 1 _ rfl
      have p2 : (wr.alloc (.cells #[.string (txt a1.name), .string (txt a1.key), .int .i64 a1.kind, .int .u64 (a1.num : Int), .string (txt a1.text), .slice A1 q1.len c1] 27)).cell? ⟨b2, o2 + j * 6 + 2, none⟩ = _ := hcel2 2 _ rfl
      have p3 : (wr.alloc (.cells #[.string (txt a1.name), .string (txt a1.key), .int .i64 a1.kind, .int .u64 (a1.num : Int), .string (txt a1.text), .slice A1 q1.len c1] 27)).cell? ⟨b2, o2 + j * 6 + 3, none⟩ = _ := hcel2 3 _ rfl
      have p4 : (wr.alloc (.cells #[.string (txt a1.name), .string (txt a1.key), .int .i64 a1.kind, .int .u64 (a1.num : Int), .string (txt a1.text), .slice A1 q1.len c1] 27)).cell? ⟨b2, o2 + j * 6 + 4, none⟩ = _ := hcel2 4 _ rfl
      have p5 : (wr.alloc (.cells #[.string (txt a1.name), .string (txt a1.key), .int .i64 a1.kind, .int .u64 (a1.num : Int), .string (txt a1.text), .slice A1 q1.len c1] 27)).cell? ⟨b2, o2 + j * 6 + 5, none⟩ = _ := hcel2 5 _ rfl
      have HG1 := Lib.hid hg1
      have HG2 := Lib.hid hg2
      have HRB := Lib.hid hrb
      have HBB := Lib.hid hBB
      clear hcl1 hcl2 hrow1 hrow2 hg1 hg2 hB hrb hbl1 hbl2 hBA hBB hcell hcel2
      cases rb with
      | false =>
        have HF : Hid (decide (f = g) = false) := Lib.hid (decide_eq_false (fun e => by
          have h1 := HG1.out
          rw [e, HG2.out] at h1
          injection h1 with h1
          have h2 := HRB.out
          rw [h1] at h2
          simp at h2))
        go_wp2_with fail
        refine HI1.out.mono ?_
        rintro r w2 ⟨rfl, hb⟩
        have HB2 := Lib.hid (HBB.out.trans (hb.mono HBB.out.size))
        clear hb s0 s1 s2 s3 s4 s5 p0 p1 p2 p3 p4 p5
        go_wp2
        go_ret
        exact ⟨by rw [HF.out]; rfl, HB2.out⟩
      | true =>
        have HL2 : Hid (∀ n, n < j + 1 → f.get? n = g.get? n) := Lib.hid (fun n hn => by
          by_cases e : n = j
          · subst e
            have h2 : ((a1, q1) : Nd) = (a2, q2) := of_decide_eq_true HRB.out.symm
            rw [HG1.out, HG2.out, h2]
          · exact HL.out n (by omega))
        go_wp2_with fail
        refine HI1.out.mono ?_
        rintro r w2 ⟨rfl, hb⟩
        have HB2 := Lib.hid (HBB.out.trans (hb.mono HBB.out.size))
        clear hb s0 s1 s2 s3 s4 s5 p0 p1 p2 p3 p4 p5
        go_wp2
        go_roundw
        case rel => exact ⟨j + 1, by omega, by go_num, HL2, HB2.out⟩
        case measure => simp [intOf]; omega
    · have i2 : ¬ (j : Int) < (L : Int) := by omega
      have HF : Hid (decide (f = g) = true) := Lib.hid (decide_eq_true (Fr.ext (by have := HLF.out; have := HLG.out; omega) (fun n hn => HL.out n (by have := HLF.out; omega))))
      clear hB
      go_wp2
      go_ret
      exact ⟨by rw [HF.out]; rfl, HBr.out⟩
set_option maxRecDepth 100000 in
set_option maxHeartbeats 2000000 in
theorem dsame_not (a b : NdD) (A B : Option Addr) (m n c d : Nat) (w : World) (h : a ≠ b) :
    Calls Try.prog 17 #[.agg #[.string (txt a.name), .string (txt a.key), .int .i64 a.kind, .int .u64 (a.num : Int), .string (txt a.text), .slice A m c], .agg #[.string (txt b.name), .string (txt b.key), .int .i64 b.kind, .int .u64 (b.num : Int), .string (txt b.text), .slice B n d]] w (Ans9 (.bool false) w) := by
  have hb2 : Blk ((w.alloc (.cells #[.string (txt a.name), .string (txt a.key), .int .i64 a.kind, .int .u64 (a.num : Int), .string (txt a.text), .slice A m c] 27)).alloc (.cells #[.string (txt b.name), .string (txt b.key), .int .i64 b.kind, .int .u64 (b.num : Int), .string (txt b.text), .slice B n d] 27)) (w.heap.size + 1) 27 #[.string (txt b.name), .string (txt b.key), .int .i64 b.kind, .int .u64 (b.num : Int), .string (txt b.text), .slice B n d] := Blk.newA (by simp) _ _
  have HQ : Hid ((Blk ((w.alloc (.cells #[.string (txt a.name), .string (txt a.key), .int .i64 a.kind, .int .u64 (a.num : Int), .string (txt a.text), .slice A m c] 27)).alloc (.cells #[.string (txt b.name), .string (txt b.key), .int .i64 b.kind, .int .u64 (b.num : Int), .string (txt b.text), .slice B n d] 27)).drew w.heap.size 27 #[.string (txt a.name), .string (txt a.key), .int .i64 a.kind, .int .u64 (a.num : Int), .string (txt a.text), .slice A m c] ∧ Blk ((w.alloc (.cells #[.string (txt a.name), .string (txt a.key), .int .i64 a.kind, .int .u64 (a.num : Int), .string (txt a.text), .slice A m c] 27)).alloc (.cells #[.string (txt b.name), .string (txt b.key), .int .i64 b.kind, .int .u64 (b.num : Int), .string (txt b.text), .slice B n d] 27)).drew (w.heap.size + 1) 27 #[.string (txt b.name), .string (txt b.key), .int .i64 b.kind, .int .u64 (b.num : Int), .string (txt b.text), .slice B n d]) ∧ Below w.heap.size w ((w.alloc (.cells #[.string (txt a.name), .string (txt a.key), .int .i64 a.kind, .int .u64 (a.num : Int), .string (txt a.text), .slice A m c] 27)).alloc (.cells #[.string (txt b.name), .string (txt b.key), .int .i64 b.kind, .int .u64 (b.num : Int), .string (txt b.text), .slice B n d] 27)).drew) := Lib.hid ⟨⟨(Blk.new w 27 #[.string (txt a.name), .string (txt a.key), .int .i64 a.kind, .int .u64 (a.num : Int), .string (txt a.text), .slice A m c]).alloc _, hb2⟩, (((Below.refl _ _).alloc (Nat.le_refl _) _).alloc (by simp) _).drew⟩
  have HE : Hid (∀ (α : Type) (R1 R0 : α), (if (txt a.name).toList = (txt b.name).toList then if (txt a.key).toList = (txt b.key).toList then if a.kind = b.kind then if (a.num : Int) = (b.num : Int) then if (txt a.text).toList = (txt b.text).toList then R1 else R0 else R0 else R0 else R0 else R0) = R0) := Lib.hid (by
    intro α R1 R0
    simp only [txt_toList]
    split
    · split
      · split
        · split
          · split
            · exact absurd (NdD.ext_ ‹_› ‹_› ‹_› (by omega) ‹_›) h
            · rfl
          · rfl
        · rfl
      · rfl
    · rfl)
  clear hb2 h
  go_enter Try.func17, Try.ntmps17
  go_wp2_with fail
  refine wp_region_noPanic ?_
  refine wp_region_held_drew (S := fun _ => True) (by kernel_rfl) trivial (fun hS => ?_)
  refine held_more (S' := fun w' => Blk w' w.heap.size 27 #[.string (txt a.name), .string (txt a.key), .int .i64 a.kind, .int .u64 (a.num : Int), .string (txt a.text), .slice A m c] ∧ Blk w' (w.heap.size + 1) 27 #[.string (txt b.name), .string (txt b.key), .int .i64 b.kind, .int .u64 (b.num : Int), .string (txt b.text), .slice B n d]) (fun _ _ => trivial) _ _ _ _ ?_
  replace hS := HQ.out.1
  refine wpAnyH_take (i := 0) (oi := ?o2_0_1) (v := ?v2_0_1) ?i2_0_1 (by kernel_rfl) (by kernel_rfl) (by kernel_rfl) (fun _ _ _ h => h) (Or.inl ⟨?g2_0_1, ?y2_0_1⟩) hS ?_
  case i2_0_1 => simp only [List.getElem?_toArray, List.getElem?_cons_succ, List.getElem?_cons_zero]; rfl
  case g2_0_1 => rfl
  case y2_0_1 => (intro w hSw; have q0 := (hSw.1.cell 0).trans rfl; have q1 := (hSw.1.cell 1).trans rfl; have q2 := (hSw.1.cell 2).trans rfl; have q3 := (hSw.1.cell 3).trans rfl; have q4 := (hSw.1.cell 4).trans rfl; have q5 := (hSw.1.cell 5).trans rfl; (go_simp <;> with_reducible rfl))
  (try simp only [Act.put, List.setIfInBounds_toArray, List.set_cons_zero, List.set_cons_succ])
  refine wpAnyH_take (i := 2) (oi := ?o2_2_2) (v := ?v2_2_2) ?i2_2_2 (by kernel_rfl) (by kernel_rfl) (by kernel_rfl) (fun _ _ _ h => h) (Or.inl ⟨?g2_2_2, ?y2_2_2⟩) hS ?_
  case i2_2_2 => simp only [List.getElem?_toArray, List.getElem?_cons_succ, List.getElem?_cons_zero]; rfl
  case g2_2_2 => rfl
  case y2_2_2 => (intro w hSw; have q0 := (hSw.2.cell 0).trans rfl; have q1 := (hSw.2.cell 1).trans rfl; have q2 := (hSw.2.cell 2).trans rfl; have q3 := (hSw.2.cell 3).trans rfl; have q4 := (hSw.2.cell 4).trans rfl; have q5 := (hSw.2.cell 5).trans rfl; (go_simp <;> with_reducible rfl))
  (try simp only [Act.put, List.setIfInBounds_toArray, List.set_cons_zero, List.set_cons_succ])
  refine wpAnyH_ready (rs := [1]) (by kernel_rfl) (by simp) ?_
  refine (AllReadyH.cons (o := ?or2_3_1) ?ir2_3_1 (fun K hK => ?str2_3_1) AllReadyH.nil)
  case ir2_3_1 => simp only [List.getElem?_toArray, List.getElem?_cons_succ, List.getElem?_cons_zero]; rfl
  rw [if_pos (by rfl)]
  go_simp
  refine (headof_any a _ _).mono ?_
  rintro r w3 ⟨rfl, hb3⟩
  have HS3 := Lib.hid (And.intro (HQ.out.1.1.below hb3 HQ.out.1.1.lt) (HQ.out.1.2.below hb3 HQ.out.1.2.lt))
  have HB3 := Lib.hid (HQ.out.2.trans (hb3.mono HQ.out.2.size))
  clear hb3
  go_wp2_with fail
  refine hK.out _ _ ?sr2_3_1 (fun hS => ?_)
  case sr2_3_1 => (exact HS3.out)
  clear hK K
  (try simp only [Act.put, List.setIfInBounds_toArray, List.set_cons_zero, List.set_cons_succ])
  refine wpAnyH_ready (rs := [3]) (by kernel_rfl) (by simp) ?_
  refine (AllReadyH.cons (o := ?or2_4_3) ?ir2_4_3 (fun K hK => ?str2_4_3) AllReadyH.nil)
  case ir2_4_3 => simp only [List.getElem?_toArray, List.getElem?_cons_succ, List.getElem?_cons_zero]; rfl
  rw [if_pos (by rfl)]
  go_simp
  refine (headof_any b _ _).mono ?_
  rintro r w4 ⟨rfl, hb4⟩
  have HS4 := Lib.hid (And.intro (HS3.out.1.below hb4 HS3.out.1.lt) (HS3.out.2.below hb4 HS3.out.2.lt))
  have HB4 := Lib.hid (HB3.out.trans (hb4.mono HB3.out.size))
  clear hb4
  go_wp2_with fail
  refine hK.out _ _ ?sr2_4_3 (fun hS => ?_)
  case sr2_4_3 => (exact HS4.out)
  clear hK K
  (try simp only [Act.put, List.setIfInBounds_toArray, List.set_cons_zero, List.set_cons_succ])
  refine wpAnyH_take (i := 4) (oi := ?o2_4_5) (v := ?v2_4_5) ?i2_4_5 (by kernel_rfl) (by kernel_rfl) (by kernel_rfl) (fun _ _ _ h => h) (Or.inl ⟨?g2_4_5, ?y2_4_5⟩) hS ?_
  case i2_4_5 => simp only [List.getElem?_toArray, List.getElem?_cons_succ, List.getElem?_cons_zero]; rfl
  case g2_4_5 => rfl
  case y2_4_5 => (intro w hSw; have he := HE.out; (go_simp <;> with_reducible rfl))
  (try simp only [Act.put, List.setIfInBounds_toArray, List.set_cons_zero, List.set_cons_succ])
  refine wpAnyH_take (i := 5) (oi := ?o2_5_6) (v := ?v2_5_6) ?i2_5_6 (by kernel_rfl) (by kernel_rfl) (by kernel_rfl) (fun _ _ _ h => h) (Or.inl ⟨?g2_5_6, ?y2_5_6⟩) hS ?_
  case i2_5_6 => simp only [List.getElem?_toArray, List.getElem?_cons_succ, List.getElem?_cons_zero]; rfl
  case g2_5_6 => rfl
  case y2_5_6 => (intro w hSw; (go_simp <;> with_reducible rfl))
  (try simp only [Act.put, List.setIfInBounds_toArray, List.set_cons_zero, List.set_cons_succ])
  refine wpAnyH_take (i := 6) (oi := ?o2_6_7) (v := undef) ?i2_6_7 (by kernel_rfl) (by kernel_rfl) (by kernel_rfl) (fun _ _ _ h => h) (Or.inr ⟨?g2_6_7, rfl⟩) hS ?_
  case i2_6_7 => simp only [List.getElem?_toArray, List.getElem?_cons_succ, List.getElem?_cons_zero]; rfl
  case g2_6_7 => rfl
  (try simp only [Act.put, List.setIfInBounds_toArray, List.set_cons_zero, List.set_cons_succ])
  refine wpAnyH_take (i := 7) (oi := ?o2_7_8) (v := undef) ?i2_7_8 (by kernel_rfl) (by kernel_rfl) (by kernel_rfl) (fun _ _ _ h => h) (Or.inr ⟨?g2_7_8, rfl⟩) hS ?_
  case i2_7_8 => simp only [List.getElem?_toArray, List.getElem?_cons_succ, List.getElem?_cons_zero]; rfl
  case g2_7_8 => rfl
  (try simp only [Act.put, List.setIfInBounds_toArray, List.set_cons_zero, List.set_cons_succ])
  refine wpAnyH_take (i := 8) (oi := ?o2_8_9) (v := undef) ?i2_8_9 (by kernel_rfl) (by kernel_rfl) (by kernel_rfl) (fun _ _ _ h => h) (Or.inr ⟨?g2_8_9, rfl⟩) hS ?_
  case i2_8_9 => simp only [List.getElem?_toArray, List.getElem?_cons_succ, List.getElem?_cons_zero]; rfl
  case g2_8_9 => rfl
  (try simp only [Act.put, List.setIfInBounds_toArray, List.set_cons_zero, List.set_cons_succ])
  refine wpAnyH_take (i := 9) (oi := ?o2_9_10) (v := undef) ?i2_9_10 (by kernel_rfl) (by kernel_rfl) (by kernel_rfl) (fun _ _ _ h => h) (Or.inr ⟨?g2_9_10, rfl⟩) hS ?_
  case i2_9_10 => simp only [List.getElem?_toArray, List.getElem?_cons_succ, List.getElem?_cons_zero]; rfl
  case g2_9_10 => rfl
  (try simp only [Act.put, List.setIfInBounds_toArray, List.set_cons_zero, List.set_cons_succ])
  refine wpAnyH_take (i := 10) (oi := ?o2_10_11) (v := undef) ?i2_10_11 (by kernel_rfl) (by kernel_rfl) (by kernel_rfl) (fun _ _ _ h => h) (Or.inr ⟨?g2_10_11, rfl⟩) hS ?_
  case i2_10_11 => simp only [List.getElem?_toArray, List.getElem?_cons_succ, List.getElem?_cons_zero]; rfl
  case g2_10_11 => rfl
  (try simp only [Act.put, List.setIfInBounds_toArray, List.set_cons_zero, List.set_cons_succ])
  refine wpAnyH_take (i := 11) (oi := ?o2_11_12) (v := ?v2_11_12) ?i2_11_12 (by kernel_rfl) (by kernel_rfl) (by kernel_rfl) (fun _ _ _ h => h) (Or.inl ⟨?g2_11_12, ?y2_11_12⟩) hS ?_
  case i2_11_12 => simp only [List.getElem?_toArray, List.getElem?_cons_succ, List.getElem?_cons_zero]; rfl
  case g2_11_12 => rfl
  case y2_11_12 => (intro w hSw; (go_simp <;> with_reducible rfl))
  (try simp only [Act.put, List.setIfInBounds_toArray, List.set_cons_zero, List.set_cons_succ])
  refine wpAnyH_take (i := 12) (oi := ?o2_12_13) (v := ?v2_12_13) ?i2_12_13 (by kernel_rfl) (by kernel_rfl) (by kernel_rfl) (fun _ _ _ h => h) (Or.inl ⟨?g2_12_13, ?y2_12_13⟩) hS ?_
  case i2_12_13 => simp only [List.getElem?_toArray, List.getElem?_cons_succ, List.getElem?_cons_zero]; rfl
  case g2_12_13 => rfl
  case y2_12_13 => (intro w hSw; (go_simp <;> with_reducible rfl))
  (try simp only [Act.put, List.setIfInBounds_toArray, List.set_cons_zero, List.set_cons_succ])
  refine wpAnyH_done (by kernel_rfl) ?_ _
  refine NoPanic.normal ?_
  clear hS
  go_wp2
  go_ret
  exact ⟨rfl, HB4.out⟩
set_option maxRecDepth 100000 in
set_option maxHeartbeats 2000000 in
theorem dsame_heads (a : NdD) (A B : Option Addr) (m n c d : Nat) (rb : Bool) (w : World)
    (hq : ∀ W, Below w.heap.size w W → Calls Try.prog 32 #[.slice A m c, .slice B n d, .func (.func 17) #[] #[]] W (Ans9 (.bool rb) W)) :
    Calls Try.prog 17 #[.agg #[.string (txt a.name), .string (txt a.key), .int .i64 a.kind, .int .u64 (a.num : Int), .string (txt a.text), .slice A m c], .agg #[.string (txt a.name), .string (txt a.key), .int .i64 a.kind, .int .u64 (a.num : Int), .string (txt a.text), .slice B n d]] w (Ans9 (.bool rb) w) := by
  have hb2 : Blk ((w.alloc (.cells #[.string (txt a.name), .string (txt a.key), .int .i64 a.kind, .int .u64 (a.num : Int), .string (txt a.text), .slice A m c] 27)).alloc (.cells #[.string (txt a.name), .string (txt a.key), .int .i64 a.kind, .int .u64 (a.num : Int), .string (txt a.text), .slice B n d] 27)) (w.heap.size + 1) 27 #[.string (txt a.name), .string (txt a.key), .int .i64 a.kind, .int .u64 (a.num : Int), .string (txt a.text), .slice B n d] := Blk.newA (by simp) _ _
  have HQ : Hid ((Blk ((w.alloc (.cells #[.string (txt a.name), .string (txt a.key), .int .i64 a.kind, .int .u64 (a.num : Int), .string (txt a.text), .slice A m c] 27)).alloc (.cells #[.string (txt a.name), .string (txt a.key), .int .i64 a.kind, .int .u64 (a.num : Int), .string (txt a.text), .slice B n d] 27)).drew w.heap.size 27 #[.string (txt a.name), .string (txt a.key), .int .i64 a.kind, .int .u64 (a.num : Int), .string (txt a.text), .slice A m c] ∧ Blk ((w.alloc (.cells #[.string (txt a.name), .string (txt a.key), .int .i64 a.kind, .int .u64 (a.num : Int), .string (txt a.text), .slice A m c] 27)).alloc (.cells #[.string (txt a.name), .string (txt a.key), .int .i64 a.kind, .int .u64 (a.num : Int), .string (txt a.text), .slice B n d] 27)).drew (w.heap.size + 1) 27 #[.string (txt a.name), .string (txt a.key), .int .i64 a.kind, .int .u64 (a.num : Int), .string (txt a.text), .slice B n d]) ∧ Below w.heap.size w ((w.alloc (.cells #[.string (txt a.name), .string (txt a.key), .int .i64 a.kind, .int .u64 (a.num : Int), .string (txt a.text), .slice A m c] 27)).alloc (.cells #[.string (txt a.name), .string (txt a.key), .int .i64 a.kind, .int .u64 (a.num : Int), .string (txt a.text), .slice B n d] 27)).drew) := Lib.hid ⟨⟨(Blk.new w 27 #[.string (txt a.name), .string (txt a.key), .int .i64 a.kind, .int .u64 (a.num : Int), .string (txt a.text), .slice A m c]).alloc _, hb2⟩, (((Below.refl _ _).alloc (Nat.le_refl _) _).alloc (by simp) _).drew⟩
  have HC := Lib.hid hq
  clear hb2 hq
  go_enter Try.func17, Try.ntmps17
  go_wp2_with fail
  refine wp_region_noPanic ?_
  refine wp_region_held_drew (S := fun _ => True) (by kernel_rfl) trivial (fun hS => ?_)
  refine held_more (S' := fun w' => Blk w' w.heap.size 27 #[.string (txt a.name), .string (txt a.key), .int .i64 a.kind, .int .u64 (a.num : Int), .string (txt a.text), .slice A m c] ∧ Blk w' (w.heap.size + 1) 27 #[.string (txt a.name), .string (txt a.key), .int .i64 a.kind, .int .u64 (a.num : Int), .string (txt a.text), .slice B n d]) (fun _ _ => trivial) _ _ _ _ ?_
  replace hS := HQ.out.1
  refine wpAnyH_take (i := 0) (oi := ?o3_0_1) (v := ?v3_0_1) ?i3_0_1 (by kernel_rfl) (by kernel_rfl) (by kernel_rfl) (fun _ _ _ h => h) (Or.inl ⟨?g3_0_1, ?y3_0_1⟩) hS ?_
  case i3_0_1 => simp only [List.getElem?_toArray, List.getElem?_cons_succ, List.getElem?_cons_zero]; rfl
  case g3_0_1 => rfl
  case y3_0_1 => (intro w hSw; have q0 := (hSw.1.cell 0).trans rfl; have q1 := (hSw.1.cell 1).trans rfl; have q2 := (hSw.1.cell 2).trans rfl; have q3 := (hSw.1.cell 3).trans rfl; have q4 := (hSw.1.cell 4).trans rfl; have q5 := (hSw.1.cell 5).trans rfl; (go_simp <;> with_reducible rfl))
  (try simp only [Act.put, List.setIfInBounds_toArray, List.set_cons_zero, List.set_cons_succ])
  refine wpAnyH_take (i := 2) (oi := ?o3_2_2) (v := ?v3_2_2) ?i3_2_2 (by kernel_rfl) (by kernel_rfl) (by kernel_rfl) (fun _ _ _ h => h) (Or.inl ⟨?g3_2_2, ?y3_2_2⟩) hS ?_
  case i3_2_2 => simp only [List.getElem?_toArray, List.getElem?_cons_succ, List.getElem?_cons_zero]; rfl
  case g3_2_2 => rfl
  case y3_2_2 => (intro w hSw; have q0 := (hSw.2.cell 0).trans rfl; have q1 := (hSw.2.cell 1).trans rfl; have q2 := (hSw.2.cell 2).trans rfl; have q3 := (hSw.2.cell 3).trans rfl; have q4 := (hSw.2.cell 4).trans rfl; have q5 := (hSw.2.cell 5).trans rfl; (go_simp <;> with_reducible rfl))
  (try simp only [Act.put, List.setIfInBounds_toArray, List.set_cons_zero, List.set_cons_succ])
  refine wpAnyH_ready (rs := [1]) (by kernel_rfl) (by simp) ?_
  refine (AllReadyH.cons (o := ?or3_3_1) ?ir3_3_1 (fun K hK => ?str3_3_1) AllReadyH.nil)
  case ir3_3_1 => simp only [List.getElem?_toArray, List.getElem?_cons_succ, List.getElem?_cons_zero]; rfl
  rw [if_pos (by rfl)]
  go_simp
  refine (headof_any a _ _).mono ?_
  rintro r w3 ⟨rfl, hb3⟩
  have HS3 := Lib.hid (And.intro (HQ.out.1.1.below hb3 HQ.out.1.1.lt) (HQ.out.1.2.below hb3 HQ.out.1.2.lt))
  have HB3 := Lib.hid (HQ.out.2.trans (hb3.mono HQ.out.2.size))
  clear hb3
  go_wp2_with fail
  refine hK.out _ _ ?sr3_3_1 (fun hS => ?_)
  case sr3_3_1 => (exact HS3.out)
  clear hK K
  (try simp only [Act.put, List.setIfInBounds_toArray, List.set_cons_zero, List.set_cons_succ])
  refine wpAnyH_ready (rs := [3]) (by kernel_rfl) (by simp) ?_
  refine (AllReadyH.cons (o := ?or3_4_3) ?ir3_4_3 (fun K hK => ?str3_4_3) AllReadyH.nil)
  case ir3_4_3 => simp only [List.getElem?_toArray, List.getElem?_cons_succ, List.getElem?_cons_zero]; rfl
  rw [if_pos (by rfl)]
  go_simp
  refine (headof_any a _ _).mono ?_
  rintro r w4 ⟨rfl, hb4⟩
  have HS4 := Lib.hid (And.intro (HS3.out.1.below hb4 HS3.out.1.lt) (HS3.out.2.below hb4 HS3.out.2.lt))
  have HB4 := Lib.hid (HB3.out.trans (hb4.mono HB3.out.size))
  clear hb4
  go_wp2_with fail
  refine hK.out _ _ ?sr3_4_3 (fun hS => ?_)
  case sr3_4_3 => (exact HS4.out)
  clear hK K
  (try simp only [Act.put, List.setIfInBounds_toArray, List.set_cons_zero, List.set_cons_succ])
  refine wpAnyH_take (i := 4) (oi := ?o3_4_5) (v := ?v3_4_5) ?i3_4_5 (by kernel_rfl) (by kernel_rfl) (by kernel_rfl) (fun _ _ _ h => h) (Or.inl ⟨?g3_4_5, ?y3_4_5⟩) hS ?_
  case i3_4_5 => simp only [List.getElem?_toArray, List.getElem?_cons_succ, List.getElem?_cons_zero]; rfl
  case g3_4_5 => rfl
  case y3_4_5 => (intro w hSw; (go_simp <;> with_reducible rfl))
  (try simp only [Act.put, List.setIfInBounds_toArray, List.set_cons_zero, List.set_cons_succ])
  refine wpAnyH_take (i := 5) (oi := ?o3_5_6) (v := ?v3_5_6) ?i3_5_6 (by kernel_rfl) (by kernel_rfl) (by kernel_rfl) (fun _ _ _ h => h) (Or.inl ⟨?g3_5_6, ?y3_5_6⟩) hS ?_
  case i3_5_6 => simp only [List.getElem?_toArray, List.getElem?_cons_succ, List.getElem?_cons_zero]; rfl
  case g3_5_6 => rfl
  case y3_5_6 => (intro w hSw; (go_simp <;> with_reducible rfl))
  (try simp only [Act.put, List.setIfInBounds_toArray, List.set_cons_zero, List.set_cons_succ])
  refine wpAnyH_take (i := 6) (oi := ?o3_6_7) (v := ?v3_6_7) ?i3_6_7 (by kernel_rfl) (by kernel_rfl) (by kernel_rfl) (fun _ _ _ h => h) (Or.inl ⟨?g3_6_7, ?y3_6_7⟩) hS ?_
  case i3_6_7 => simp only [List.getElem?_toArray, List.getElem?_cons_succ, List.getElem?_cons_zero]; rfl
  case g3_6_7 => rfl
  case y3_6_7 => (intro w hSw; (go_simp <;> with_reducible rfl))
  (try simp only [Act.put, List.setIfInBounds_toArray, List.set_cons_zero, List.set_cons_succ])
  refine wpAnyH_take (i := 7) (oi := ?o3_7_8) (v := ?v3_7_8) ?i3_7_8 (by kernel_rfl) (by kernel_rfl) (by kernel_rfl) (fun _ _ _ h => h) (Or.inl ⟨?g3_7_8, ?y3_7_8⟩) hS ?_
  case i3_7_8 => simp only [List.getElem?_toArray, List.getElem?_cons_succ, List.getElem?_cons_zero]; rfl
  case g3_7_8 => rfl
  case y3_7_8 => (intro w hSw; have q5 := (hSw.1.cell 5).trans rfl; (go_simp <;> with_reducible rfl))
  (try simp only [Act.put, List.setIfInBounds_toArray, List.set_cons_zero, List.set_cons_succ])
  refine wpAnyH_take (i := 8) (oi := ?o3_8_9) (v := ?v3_8_9) ?i3_8_9 (by kernel_rfl) (by kernel_rfl) (by kernel_rfl) (fun _ _ _ h => h) (Or.inl ⟨?g3_8_9, ?y3_8_9⟩) hS ?_
  case i3_8_9 => simp only [List.getElem?_toArray, List.getElem?_cons_succ, List.getElem?_cons_zero]; rfl
  case g3_8_9 => rfl
  case y3_8_9 => (intro w hSw; (go_simp <;> with_reducible rfl))
  (try simp only [Act.put, List.setIfInBounds_toArray, List.set_cons_zero, List.set_cons_succ])
  refine wpAnyH_take (i := 9) (oi := ?o3_9_10) (v := ?v3_9_10) ?i3_9_10 (by kernel_rfl) (by kernel_rfl) (by kernel_rfl) (fun _ _ _ h => h) (Or.inl ⟨?g3_9_10, ?y3_9_10⟩) hS ?_
  case i3_9_10 => simp only [List.getElem?_toArray, List.getElem?_cons_succ, List.getElem?_cons_zero]; rfl
  case g3_9_10 => rfl
  case y3_9_10 => (intro w hSw; have q5 := (hSw.2.cell 5).trans rfl; (go_simp <;> with_reducible rfl))
  (try simp only [Act.put, List.setIfInBounds_toArray, List.set_cons_zero, List.set_cons_succ])
  refine wpAnyH_ready (rs := [10]) (by kernel_rfl) (by simp) ?_
  refine (AllReadyH.cons (o := ?or3_11_10) ?ir3_11_10 (fun K hK => ?str3_11_10) AllReadyH.nil)
  case ir3_11_10 => simp only [List.getElem?_toArray, List.getElem?_cons_succ, List.getElem?_cons_zero]; rfl
  rw [if_pos (by rfl)]
  go_simp
  refine (HC.out _ HB4.out).mono ?_
  rintro r w5 ⟨rfl, hb5⟩
  have HS5 := Lib.hid (And.intro (HS4.out.1.below hb5 HS4.out.1.lt) (HS4.out.2.below hb5 HS4.out.2.lt))
  have HB5 := Lib.hid (HB4.out.trans (hb5.mono HB4.out.size))
  clear hb5
  go_wp2_with fail
  refine hK.out _ _ ?sr3_11_10 (fun hS => ?_)
  case sr3_11_10 => (exact HS5.out)
  clear hK K
  (try simp only [Act.put, List.setIfInBounds_toArray, List.set_cons_zero, List.set_cons_succ])
  refine wpAnyH_take (i := 11) (oi := ?o3_11_12) (v := ?v3_11_12) ?i3_11_12 (by kernel_rfl) (by kernel_rfl) (by kernel_rfl) (fun _ _ _ h => h) (Or.inl ⟨?g3_11_12, ?y3_11_12⟩) hS ?_
  case i3_11_12 => simp only [List.getElem?_toArray, List.getElem?_cons_succ, List.getElem?_cons_zero]; rfl
  case g3_11_12 => rfl
  case y3_11_12 => (intro w hSw; (go_simp <;> with_reducible rfl))
  (try simp only [Act.put, List.setIfInBounds_toArray, List.set_cons_zero, List.set_cons_succ])
  refine wpAnyH_take (i := 12) (oi := ?o3_12_13) (v := ?v3_12_13) ?i3_12_13 (by kernel_rfl) (by kernel_rfl) (by kernel_rfl) (fun _ _ _ h => h) (Or.inl ⟨?g3_12_13, ?y3_12_13⟩) hS ?_
  case i3_12_13 => simp only [List.getElem?_toArray, List.getElem?_cons_succ, List.getElem?_cons_zero]; rfl
  case g3_12_13 => rfl
  case y3_12_13 => (intro w hSw; (go_simp <;> with_reducible rfl))
  (try simp only [Act.put, List.setIfInBounds_toArray, List.set_cons_zero, List.set_cons_succ])
  refine wpAnyH_done (by kernel_rfl) ?_ _
  refine NoPanic.normal ?_
  clear hS
  go_wp2
  go_ret
  exact ⟨rfl, HB5.out⟩
theorem dsamef_any (f : NdF) : DSameP f := by
  refine Fr.byKids (P := DSameP) ?_ f
  clear f
  intro f hkids g a b A B c d w hf hg hsf hsg
  by_cases h1 : a = b
  · subst h1
    refine (dsame_heads a A B _ _ c d (decide (f = g)) w (fun W hW => ?_)).mono fun _ _ h => h.bool ?_
    · by_cases h4 : f.len = g.len
      · rw [← h4] at hg ⊢
        exact equalf_row f g hkids A B c d f.len W (hf.under hW (Nat.le_refl _) hW.size) (hg.under hW (Nat.le_refl _) hW.size) hsf hsg
      · exact (equalf_len A B _ _ c d _ W h4).mono fun _ _ h => h.bool (decide_eq_false (fun e => h4 (by rw [e]))).symm
    · by_cases e : f = g
      · rw [e, decide_eq_true rfl, decide_eq_true rfl]
      · rw [decide_eq_false e, decide_eq_false (fun h => e (Prod.ext_iff.1 h).2)]
  · exact (dsame_not a b A B _ _ c d w h1).mono fun _ _ h => h.bool (decide_eq_false (fun e => h1 (Prod.ext_iff.1 e).1)).symm
theorem sameT (W0 : World) : SameTC W0 := by
  intro x y cs ds w hx hy hf hg _
  obtain ⟨A, c, rfl, hk⟩ := hx.shape
  obtain ⟨B, d, rfl, hk2⟩ := hy.shape
  exact dsamef_any x.2 y.2 x.1 y.1 A B c d w hk hk2 hf hg
end Go.Proofs.Ytgipnemcmiohlaa

