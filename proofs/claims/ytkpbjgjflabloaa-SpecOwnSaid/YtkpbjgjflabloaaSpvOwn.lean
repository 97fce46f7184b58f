/-
  Things of the schema in rows of the call's own, no two of which share memory. No condition but those of each theorem.
-/
import Derived.Test.YtkpbjgjflabloaaSpcMem
import Derived.Test.YtkpbjgjflabloaaForestB
import Derived.Test.YtkpbjgjflabloaaSpvNum
namespace Go.Proofs.Ytkpbjgjflabloaa
open Go.RowKit
set_option linter.unusedSimpArgs false
set_option linter.unusedVariables false

/-- The cells xs are the things f, nine cells each, each one's kids a row of the call's own; F: these rows' blocks. R: where names lie. -/
def OwnT (w : World) (base : Nat) (R : Nat → Prop) : SpF → List Value → List Nat → Prop
  | .nil, xs, F => xs = [] ∧ F = []
  | .cons a k r, xs, F => ∃ (cs ys zs : List Value) (F0 F2 : List Nat) (v : Value), xs = cs ++ ys ∧ F = (v.ownBlock.toList ++ F0) ++ F2 ∧ cs.length = 9 ∧ SpcD w R cs a ∧ cs[8]? = some v ∧
      OwnK 27 9 w base v k.len zs ∧ OwnT w base R k zs F0 ∧ OwnT w base R r ys F2
/-- The slice v is a row of the call's own, of things k. -/
def OwnU (w : World) (base : Nat) (R : Nat → Prop) (v : Value) (k : SpF) (F : List Nat) : Prop := ∃ zs F0, F = v.ownBlock.toList ++ F0 ∧ OwnK 27 9 w base v k.len zs ∧ OwnT w base R k zs F0
/-- The nine cells are a thing whose kids are the call's own. -/
def OwnX (w : World) (base : Nat) (R : Nat → Prop) (cs : List Value) (x : Sp) (F : List Nat) : Prop := ∃ v, cs.length = 9 ∧ SpcD w R cs x.1 ∧ cs[8]? = some v ∧ OwnU w base R v x.2 F
section
variable {w w' : World} {base base' : Nat} {R R' : Nat → Prop} {f g : SpF} {xs ys : List Value} {F G : List Nat}
theorem OwnT.cons_iff {a : SpD} {k r : SpF} : OwnT w base R (.cons a k r) xs F ↔ ∃ cs ys F1 F2, xs = cs ++ ys ∧ F = F1 ++ F2 ∧ OwnX w base R cs (a, k) F1 ∧ OwnT w base R r ys F2 := by
  constructor
  · intro ⟨cs, ys, zs, F0, F2, v, h1, h2, h3, h4, h5, h6, h7, h8⟩
    exact ⟨cs, ys, _, F2, h1, h2, ⟨v, h3, h4, h5, zs, F0, rfl, h6, h7⟩, h8⟩
  · intro ⟨cs, ys, F1, F2, h1, h2, ⟨v, h3, h4, h5, zs, F0, h9, h6, h7⟩, h8⟩
    exact ⟨cs, ys, zs, F0, F2, v, h1, by rw [h2, h9], h3, h4, h5, h6, h7, h8⟩
theorem OwnK.keep {e : TypeId} {k n : Nat} {v : Value} (h : OwnK e k w base v n xs) (hk : ∀ g, v.ownBlock = some g → w'.heap[g]? = w.heap[g]?) : OwnK e k w' base v n xs := by
  refine ⟨h.1, ?_⟩
  rcases h.2 with ⟨rfl, h0⟩ | ⟨g, cap, cur, rfl, hb, hg, hrest⟩
  · exact .inl ⟨rfl, h0⟩
  · exact .inr ⟨g, cap, cur, rfl, hb, (hk g rfl).trans hg, hrest⟩
theorem OwnT.keep (hR : ∀ g, R g → w'.heap[g]? = w.heap[g]?) (hRR : ∀ g, R g → R' g) (hb : base' ≤ base) : ∀ {f : SpF} {xs : List Value} {F : List Nat}, (∀ g, g ∈ F → w'.heap[g]? = w.heap[g]?) → OwnT w base R f xs F → OwnT w' base' R' f xs F := by
  intro f
  induction f with
  | nil => intro xs F _ h; exact h
  | cons a k r ihk ihr =>
    intro xs F hF ⟨cs, ys, zs, F0, F2, v, h1, h2, h3, h4, h5, h6, h7, h8⟩
    subst h2
    refine ⟨cs, ys, zs, F0, F2, v, h1, rfl, h3, stay_spc _ _ _ _ _ _ hR hRR h4, h5, (h6.keep (fun g hg => hF g (by simp [hg]))).mono hb, ihk (fun g hg => hF g (by simp [hg])) h7, ihr (fun g hg => hF g (by simp [hg])) h8⟩
theorem OwnU.keep {v : Value} {k : SpF} (h : OwnU w base R v k F) (hF : ∀ g, g ∈ F → w'.heap[g]? = w.heap[g]?) (hR : ∀ g, R g → w'.heap[g]? = w.heap[g]?) (hRR : ∀ g, R g → R' g) (hb : base' ≤ base) : OwnU w' base' R' v k F := by
  obtain ⟨zs, F0, rfl, h1, h2⟩ := h
  exact ⟨zs, F0, rfl, (h1.keep (fun g hg => hF g (by simp [hg]))).mono hb, h2.keep hR hRR hb (fun g hg => hF g (by simp [hg]))⟩
theorem OwnX.keep {cs : List Value} {x : Sp} (h : OwnX w base R cs x F) (hF : ∀ g, g ∈ F → w'.heap[g]? = w.heap[g]?) (hR : ∀ g, R g → w'.heap[g]? = w.heap[g]?) (hRR : ∀ g, R g → R' g) (hb : base' ≤ base) : OwnX w' base' R' cs x F := by
  obtain ⟨v, h1, h2, h3, h4⟩ := h
  exact ⟨v, h1, stay_spc _ _ _ _ _ _ hR hRR h2, h3, h4.keep hF hR hRR hb⟩
/-- Each block is the call's own, and may be written. -/
theorem OwnK.fresh {e : TypeId} {k n : Nat} {v : Value} (h : OwnK e k w base v n xs) {g : Nat} (hg : v.ownBlock = some g) : Fresh base w g := by
  rcases h.2 with ⟨rfl, h0⟩ | ⟨g', cap, cur, rfl, hb, hg', hrest⟩
  · cases hg
  · injection hg with hg
    subst hg
    exact ⟨hb, cur, _, hg'⟩
theorem OwnT.fresh : ∀ {f : SpF} {xs : List Value} {F : List Nat}, OwnT w base R f xs F → ∀ g, g ∈ F → Fresh base w g := by
  intro f
  induction f with
  | nil => intro xs F h g hg; rw [h.2] at hg; cases hg
  | cons a k r ihk ihr =>
    intro xs F ⟨cs, ys, zs, F0, F2, v, h1, h2, h3, h4, h5, h6, h7, h8⟩ g hg
    subst h2
    simp only [List.mem_append, Option.mem_toList] at hg
    rcases hg with (hg | hg) | hg
    · exact h6.fresh hg
    · exact ihk h7 g hg
    · exact ihr h8 g hg
theorem OwnU.fresh {v : Value} {k : SpF} (h : OwnU w base R v k F) : ∀ g, g ∈ F → Fresh base w g := by
  obtain ⟨zs, F0, rfl, h1, h2⟩ := h
  intro g hg
  simp only [List.mem_append, Option.mem_toList] at hg
  rcases hg with hg | hg
  · exact h1.fresh hg
  · exact h2.fresh g hg
theorem OwnX.fresh {cs : List Value} {x : Sp} (h : OwnX w base R cs x F) : ∀ g, g ∈ F → Fresh base w g := by
  obtain ⟨v, _, _, _, h4⟩ := h
  exact h4.fresh
/-- Read as things. -/
theorem OwnK.frv {S : Nat → Prop} {v : Value} {k : SpF} (h : OwnK 27 9 w base v k.len xs) (hr : rowG SpcD 9 8 w S R xs k) (hS : ∀ g, v.ownBlock = some g → S g) : FrV SpcD 9 8 w S R v k := by
  have hh := h
  rcases h.2 with ⟨rfl, h0⟩ | ⟨g, cap, cur, rfl, hb, hg, hnc, hcm, hcs, ht⟩
  · exact ⟨none, 0, by rw [h0], by omega, fun h => absurd h (by omega)⟩
  · refine ⟨_, cap, rfl, hnc, fun h0 => ⟨g, 0, rfl, hS g rfl, hr.at (fun j u hj => ?_)⟩⟩
    have hjl : j < xs.length := (List.getElem?_eq_some_iff.1 hj).1
    have hxl : xs.length = k.len * 9 := h.1
    rw [World.ownsRow.cellAt hh (0 + j) (by omega), Nat.zero_add, hj]
theorem OwnT.row {S : Nat → Prop} : ∀ {f : SpF} {xs : List Value} {F : List Nat}, (∀ g, g ∈ F → S g) → OwnT w base R f xs F → rowG SpcD 9 8 w S R xs f := by
  intro f
  induction f with
  | nil => intro xs F _ h; exact h.1
  | cons a k r ihk ihr =>
    intro xs F hF ⟨cs, ys, zs, F0, F2, v, h1, h2, h3, h4, h5, h6, h7, h8⟩
    subst h2
    exact ⟨cs, ys, h1, ⟨h3, h4, v, h5, h6.frv (ihk (fun g hg => hF g (by simp [hg])) h7) (fun g hg => hF g (by simp [hg]))⟩, ihr (fun g hg => hF g (by simp [hg])) h8⟩
theorem OwnU.frv {v : Value} {k : SpF} (h : OwnU w base R v k F) : FrV SpcD 9 8 w (fun g => g ∈ F) R v k := by
  obtain ⟨zs, F0, rfl, h1, h2⟩ := h
  exact h1.frv (h2.row (fun g hg => by simp [hg])) (fun g hg => by simp [hg])
theorem OwnX.spn {cs : List Value} {x : Sp} (h : OwnX w base R cs x F) : SpN w (fun g => g ∈ F) R cs x := by
  obtain ⟨v, h1, h2, h3, h4⟩ := h
  exact ⟨h1, h2, v, h3, h4.frv⟩
theorem OwnX.lt {cs : List Value} {x : Sp} (h : OwnX w base R cs x F) : ∀ g, g ∈ F → g < w.heap.size := fun g hg => (h.fresh g hg).lt
theorem OwnT.app (h2 : OwnT w base R g ys G) : ∀ {f : SpF} {xs : List Value} {F : List Nat}, OwnT w base R f xs F → OwnT w base R (f.app g) (xs ++ ys) (F ++ G) := by
  intro f
  induction f with
  | nil => intro xs F h; rw [h.1, h.2]; exact h2
  | cons a k r ihk ihr =>
    intro xs F ⟨cs, zs, us, F0, F2, v, h1, h2, h3, h4, h5, h6, h7, h8⟩
    subst h1 h2
    exact ⟨cs, zs ++ ys, us, F0, F2 ++ G, v, by simp, by simp, h3, h4, h5, h6, h7, ihr h8⟩
theorem OwnT.one {cs : List Value} {x : Sp} (h : OwnX w base R cs x F) : OwnT w base R (.cons x.1 x.2 .nil) cs F := OwnT.cons_iff.2 ⟨cs, [], F, [], by simp, by simp, h, rfl, rfl⟩
theorem OwnT.split (n : Nat) : ∀ {f : SpF} {xs : List Value} {F : List Nat}, OwnT w base R f xs F → ∃ xs1 xs2 F1 F2, xs = xs1 ++ xs2 ∧ F = F1 ++ F2 ∧ OwnT w base R (Fr.take n f) xs1 F1 ∧ OwnT w base R (Fr.drop n f) xs2 F2 := by
  induction n with
  | zero => intro f xs F h; exact ⟨[], xs, [], F, rfl, rfl, by cases f <;> exact ⟨rfl, rfl⟩, by cases f <;> exact h⟩
  | succ n ih =>
    intro f xs F h
    cases f with
    | nil => exact ⟨[], xs, [], F, rfl, rfl, ⟨rfl, rfl⟩, h⟩
    | cons a k r =>
      obtain ⟨cs, ys, F1, F2, rfl, rfl, h1, h2⟩ := OwnT.cons_iff.1 h
      obtain ⟨ys1, ys2, G1, G2, rfl, rfl, h3, h4⟩ := ih h2
      exact ⟨cs ++ ys1, ys2, F1 ++ G1, G2, by simp, by simp, OwnT.cons_iff.2 ⟨cs, ys1, F1, G1, rfl, rfl, h1, h3⟩, h4⟩
theorem OwnT.len (h : OwnT w base R f xs F) : xs.length = f.len * 9 := (h.row (S := fun g => g ∈ F) (fun _ h => h)).len
/-- The thing at a place, between the others. -/
theorem OwnT.at (h : OwnT w base R f xs F) {i : Nat} {y : Sp} (hy : f.get? i = some y) : ∃ xs1 cs xs2 F1 Fk F2, xs = xs1 ++ (cs ++ xs2) ∧ F = F1 ++ (Fk ++ F2) ∧ xs1.length = i * 9 ∧ OwnT w base R (Fr.take i f) xs1 F1 ∧ OwnX w base R cs y Fk ∧ OwnT w base R (Fr.drop (i + 1) f) xs2 F2 := by
  obtain ⟨xs1, xs2, F1, F2, rfl, rfl, h1, h2⟩ := h.split i
  obtain ⟨a, k⟩ := y
  rw [(Fr.get_drop hy).1] at h2
  obtain ⟨cs, ys, G1, G2, rfl, rfl, h3, h4⟩ := OwnT.cons_iff.1 h2
  exact ⟨xs1, cs, ys, F1, G1, G2, rfl, rfl, by rw [h1.len, Fr.len_take _ _ (by have := Fr.get_lt hy; omega)], h1, h3, h4⟩
theorem OwnT.upd {i : Nat} {y : Sp} {xs1 xs2 cs : List Value} {F1 F2 Fk : List Nat} (h1 : OwnT w base R (Fr.take i f) xs1 F1) (h2 : OwnX w base R cs y Fk) (h3 : OwnT w base R (Fr.drop (i + 1) f) xs2 F2) : OwnT w base R (updF i y f) (xs1 ++ (cs ++ xs2)) (F1 ++ (Fk ++ F2)) :=
  OwnT.app (OwnT.cons_iff.2 ⟨cs, xs2, Fk, F2, rfl, rfl, h2, h3⟩) h1
end
/-- Below base as it was; and all that was there, but for the blocks F. -/
def Keeps (base : Nat) (F : List Nat) (w w' : World) : Prop := Below base w w' ∧ ∀ g, g < w.heap.size → g ∉ F → w'.heap[g]? = w.heap[g]?
theorem Keeps.refl (base : Nat) (F : List Nat) (w : World) : Keeps base F w w := ⟨Below.refl _ _, fun _ _ _ => rfl⟩
theorem Keeps.trans {base : Nat} {F G : List Nat} {a b c : World} (h : Keeps base F a b) (k : Keeps base G b c) (hG : ∀ g, g ∈ G → g ∈ F ∨ a.heap.size ≤ g) : Keeps base F a c :=
  ⟨h.1.trans k.1, fun g hg hF => (k.2 g (Nat.lt_of_lt_of_le hg h.1.size) (fun hm => by rcases hG g hm with h' | h'; exact hF h'; omega)).trans (h.2 g hg hF)⟩
theorem Keeps.of_below {base : Nat} {F : List Nat} {w w' : World} (h : Below w.heap.size w w') (hb : base ≤ w.heap.size) : Keeps base F w w' := ⟨h.mono hb, fun g hg _ => h.block g hg⟩
theorem Keeps.sub {base : Nat} {F G : List Nat} {w w' : World} (h : Keeps base F w w') (hs : ∀ g, g ∈ F → g ∈ G) : Keeps base G w w' := ⟨h.1, fun g hg hn => h.2 g hg (fun hm => hn (hs g hm))⟩
/-- A thing in new memory whose rows share nothing. -/
def NewX (base : Nat) (w : World) (cs : List Value) (x : Sp) : Prop := ∃ F R, F.Nodup ∧ (∀ g, R g → Fresh base w g ∧ g ∉ F) ∧ OwnX w base R cs x F
theorem NewX.new {base : Nat} {w : World} {cs : List Value} {x : Sp} (h : NewX base w cs x) : NewSp base w cs x := by
  obtain ⟨F, R, h1, h2, h3⟩ := h
  exact ⟨fun g => g ∈ F, R, h3.fresh, h2, h3.spn⟩
/-- The box B holds the cells of a thing that is the call's own; what is read alone (R) lies elsewhere. -/
structure Sit (w : World) (base : Nat) (R : Nat → Prop) (B : Nat) (F : List Nat) (cs : List Value) (x : Sp) : Prop where
  box : Blk w B 27 cs.toArray
  own : OwnX w base R cs x F
  nd : (B :: F).Nodup
  rlt : ∀ g, R g → g < w.heap.size ∧ g ≠ B ∧ g ∉ F
  hb : base ≤ B
/-- What a change of the thing in the box B leaves. -/
def ChgP (base : Nat) (R : Nat → Prop) (B : Nat) (F : List Nat) (x : Sp) (w : World) (r : Ending) (w' : World) : Prop :=
  r = .returned (.tuple #[]) ∧ ∃ cs F', Sit w' base R B F' cs x ∧ Keeps base (B :: F) w w' ∧ ∀ g, g ∈ F' → g ∈ F ∨ w.heap.size ≤ g
theorem SpcD.last {w : World} {R : Nat → Prop} {hd : List Value} {v v' : Value} {a : SpD} (h : SpcD w R (hd ++ [v]) a) (hv : v'.oneCell' = true) : SpcD w R (hd ++ [v']) a := by
  obtain ⟨nv, kv, d, e, h2, h3, h4⟩ := h
  have e2 : hd ++ [v] = [.string (txt a.name), .int .i64 (a.kind : Int), .int .i64 (a.typ : Int), .int .u64 (a.low : Int), .int .u64 (a.high : Int), nv, .bool a.must, .int .i64 (a.most : Int)] ++ [kv] := e
  obtain ⟨e3, -⟩ := List.append_inj' e2 rfl
  exact ⟨nv, v', d, by rw [e3]; rfl, h2, h3, hv⟩
theorem SpcD.len {w : World} {R : Nat → Prop} {cs : List Value} {a : SpD} (h : SpcD w R cs a) : cs.length = 9 := by
  obtain ⟨nv, kv, d, e, _⟩ := h
  rw [e]; rfl
theorem SpcD.oneC {w : World} {R : Nat → Prop} {cs : List Value} {a : SpD} (h : SpcD w R cs a) : ∀ u ∈ cs, u.oneCell' = true := one_spc _ _ _ _ h
theorem last_at {hd : List Value} {v : Value} (h : hd.length = 8) : (hd ++ [v])[8]? = some v := by rw [List.getElem?_append_right (by omega), h]; rfl
theorem last_set {hd : List Value} {v v' : Value} (h : hd.length = 8) : ((hd ++ [v]).toArray.setIfInBounds 8 v') = (hd ++ [v']).toArray := by
  rw [List.setIfInBounds_toArray, List.set_append_right _ _ (by omega), h]; rfl
/-- A kid more, behind the last one. -/
theorem after_sit {w wa w3 : World} {base B : Nat} {R : Nat → Prop} {hd zs lc : List Value} {F0 : List Nat} {v v' : Value} {x : Sp} {d : SpD}
    (box : Blk w B 27 (hd ++ [v]).toArray) (hl : hd.length = 8) (hD : SpcD w R (hd ++ [v]) x.1) (hk : OwnK 27 9 w base v x.2.len zs) (ht : OwnT w base R x.2 zs F0)
    (nd : (B :: (v.ownBlock.toList ++ F0)).Nodup) (rlt : ∀ g, R g → g < w.heap.size ∧ g ≠ B ∧ g ∉ v.ownBlock.toList ++ F0) (hb : base ≤ B) (hwa : Below w.heap.size w wa)
    (hap : AppK 27 9 wa base v (x.2.len + 1) (zs ++ lc) v' w3) (hld : SpcD w R lc d) (hl8 : lc[8]? = some (.slice none 0 0)) :
    ∃ F', Sit (w3.setCell ⟨B, 8, none⟩ v') base R B F' (hd ++ [v']) (x.1, x.2.app (.cons d .nil .nil)) ∧ Keeps base (B :: (v.ownBlock.toList ++ F0)) w (w3.setCell ⟨B, 8, none⟩ v') ∧ ∀ g, g ∈ F' → g ∈ v.ownBlock.toList ++ F0 ∨ w.heap.size ≤ g := by
  have hBl := box.lt
  simp only [List.nodup_cons, List.mem_append, Option.mem_toList, not_or, List.nodup_append] at nd
  obtain ⟨⟨nB1, nB2⟩, -, nd0, ndd⟩ := nd
  have hF0 : ∀ g, g ∈ F0 → Fresh base w g := ht.fresh
  have hne : ∀ g, g ∈ F0 → v.ownBlock ≠ some g := fun g hg e => ndd g (by simpa using e) g hg rfl
  -- what is kept
  have kept : ∀ g, g < w.heap.size → g ≠ B → v.ownBlock ≠ some g → (w3.setCell ⟨B, 8, none⟩ v').heap[g]? = w.heap[g]? := fun g hg h1 h2 =>
    (Below.heap_setCell _ _ _ _ h1).trans ((hap.2.1.block g (Nat.lt_of_lt_of_le hg hwa.size) (fun e => h2 e.symm)).trans (hwa.block g hg))
  have hsz : w.heap.size ≤ w3.heap.size := Nat.le_trans hwa.size hap.2.1.size
  have hsz2 : (w3.setCell ⟨B, 8, none⟩ v').heap.size = w3.heap.size := by simp [World.setCell]
  have hR : ∀ g, R g → (w3.setCell ⟨B, 8, none⟩ v').heap[g]? = w.heap[g]? := fun g hg => by
    obtain ⟨h1, h2, h3⟩ := rlt g hg
    simp only [List.mem_append, Option.mem_toList, not_or] at h3
    exact kept g h1 h2 h3.1
  have hv' : ∀ g, v'.ownBlock = some g → g ≠ B ∧ g ∉ F0 ∧ ((v.ownBlock = some g) ∨ w.heap.size ≤ g) := by
    intro g hg
    rcases hap.2.2.1 with h | h
    · rw [hg] at h
      exact ⟨fun e => nB1 (by rw [← e]; exact h.symm), fun hm => hne g hm h.symm, .inl h.symm⟩
    · rw [hg] at h
      injection h with h
      have := hwa.size
      exact ⟨by omega, fun hm => by have := (hF0 g hm).lt; omega, .inr (by omega)⟩
  have hone : v'.oneCell' = true := by obtain ⟨g, c, e⟩ := hap.2.2.2; rw [e]; rfl
  refine ⟨v'.ownBlock.toList ++ (F0 ++ []), ⟨?_, ?_, ?_, ?_, hb⟩, ⟨?_, ?_⟩, ?_⟩
  · have h1 : Blk wa B 27 (hd ++ [v]).toArray := box.below hwa hBl
    have h2 : Blk w3 B 27 (hd ++ [v]).toArray := h1.grown hap.2.1 (fun e => nB1 e.symm)
    have h3 := h2.set_ 8 v'
    rw [last_set hl] at h3
    exact h3
  · have hD2 : SpcD (w3.setCell ⟨B, 8, none⟩ v') R (hd ++ [v']) x.1 := stay_spc _ _ _ _ _ _ hR (fun _ h => h) (hD.last hone)
    refine ⟨v', by simp [hl], hD2, last_at hl, zs ++ lc, F0 ++ [], rfl, ?_, ?_⟩
    · have e : (x.2.app (.cons d .nil .nil)).len = x.2.len + 1 := by rw [Fr.len_app]; rfl
      rw [e]
      exact hap.1.keep (fun g hg => Below.heap_setCell _ _ _ _ (hv' g hg).1)
    · refine OwnT.app (OwnT.one (x := (d, .nil)) ⟨.slice none 0 0, hld.len, stay_spc _ _ _ _ _ _ hR (fun _ h => h) hld, hl8, [], [], rfl, OwnK.nil _ _ _ _, rfl, rfl⟩) ?_
      exact ht.keep hR (fun _ h => h) (Nat.le_refl _) (fun g hg => kept g (hF0 g hg).lt (fun e => nB2 (e ▸ hg)) (hne g hg))
  · simp only [List.append_nil, List.nodup_cons, List.mem_append, Option.mem_toList, not_or, List.nodup_append]
    refine ⟨⟨fun e => (hv' B e).1 rfl, nB2⟩, ?_, nd0, fun a ha b hb' e => ?_⟩
    · cases v'.ownBlock <;> simp
    · subst e; exact (hv' a (by simpa using ha)).2.1 hb'
  · intro g hg
    obtain ⟨h1, h2, h3⟩ := rlt g hg
    simp only [List.mem_append, Option.mem_toList, not_or] at h3
    refine ⟨by omega, h2, ?_⟩
    simp only [List.append_nil, List.mem_append, Option.mem_toList, not_or]
    refine ⟨fun e => ?_, h3.2⟩
    rcases (hv' g e).2.2 with h | h
    · exact h3.1 h
    · omega
  · exact ((hwa.mono (by omega)).trans ((Below.refl _ _).grown hap.2.1 (by have := hwa.size; omega) (fun g hg => (hk.fresh hg).1))).setCell (p := ⟨B, 8, none⟩) hb _
  · intro g hg hn
    simp only [List.mem_cons, List.mem_append, Option.mem_toList, not_or] at hn
    exact kept g hg hn.1 hn.2.1
  · intro g hg
    simp only [List.append_nil, List.mem_append, Option.mem_toList] at hg ⊢
    rcases hg with hg | hg
    · rcases (hv' g hg).2.2 with h | h
      · exact .inl (.inl h)
      · exact .inr h
    · exact .inl (.inr hg)
/-- Another name. -/
theorem named_sit {w : World} {base B : Nat} {R : Nat → Prop} {F : List Nat} {x : Sp} {cs : List Value} (n : List UInt8) (h : Sit w base R B F cs x) :
    ∃ cs' F', Sit (w.setCell ⟨B, 0, none⟩ (.string (txt n))) base R B F' cs' ({ x.1 with name := n }, x.2) ∧ Keeps base (B :: F) w (w.setCell ⟨B, 0, none⟩ (.string (txt n))) ∧ ∀ g, g ∈ F' → g ∈ F ∨ w.heap.size ≤ g := by
  obtain ⟨box, ⟨v, h1, ⟨nv, kv, d, e, h2, h3, h4⟩, h5, h6⟩, nd, rlt, hb⟩ := h
  subst e
  simp at h5
  subst h5
  have kept : ∀ g, g ≠ B → (w.setCell ⟨B, 0, none⟩ (.string (txt n))).heap[g]? = w.heap[g]? := fun g hg => Below.heap_setCell _ _ _ _ hg
  have hsz : (w.setCell ⟨B, 0, none⟩ (.string (txt n))).heap.size = w.heap.size := by simp [World.setCell]
  have nB : ∀ g, g ∈ F → g ≠ B := fun g hg e => (List.nodup_cons.1 nd).1 (e ▸ hg)
  refine ⟨_, F, ⟨box.set_ 0 _, ⟨kv, rfl, stay_spc _ _ _ _ _ _ (fun g hg => kept g (rlt g hg).2.1) (fun _ h => h) ⟨nv, kv, d, rfl, h2, h3, h4⟩, rfl, h6.keep (fun g hg => kept g (nB g hg)) (fun g hg => kept g (rlt g hg).2.1) (fun _ h => h) (Nat.le_refl _)⟩, nd, fun g hg => ?_, hb⟩,
    ⟨(Below.refl _ _).setCell (p := ⟨B, 0, none⟩) hb _, fun g _ hn => kept g (fun e => hn (by simp [e]))⟩, fun g hg => .inl hg⟩
  rw [hsz]
  exact rlt g hg

end Go.Proofs.Ytkpbjgjflabloaa
