/- SpvOwn SpvFnA SpvFnD -/
import Derived.Test.YtodlhgflfcadmaaGreatUM22
set_option linter.unusedSimpArgs false
set_option linter.unusedVariables false
set_option maxRecDepth 100000
set_option maxHeartbeats 8000000
namespace Go.Proofs.YtodlhgflfcadmaaGreat
open Go.RowKit
def SOwnT (w : World) (base : Nat) (R : Nat → Prop) : SpF → List Value → List Nat → Prop
 | .nil, xs, F => xs = [] ∧ F = []
 | .cons a k r, xs, F => ∃ (cs ys zs : List Value) (F0 F2 : List Nat) (v : Value), xs = cs ++ ys ∧ F = (v.ownBlock.toList ++ F0) ++ F2 ∧ cs.length = 9 ∧ SpcD w R cs a ∧ cs[8]? = some v ∧
   OwnK 61 9 w base v k.len zs ∧ SOwnT w base R k zs F0 ∧ SOwnT w base R r ys F2
def SOwnU (w : World) (base : Nat) (R : Nat → Prop) (v : Value) (k : SpF) (F : List Nat) : Prop := ∃ zs F0, F = v.ownBlock.toList ++ F0 ∧ OwnK 61 9 w base v k.len zs ∧ SOwnT w base R k zs F0
def OwnX (w : World) (base : Nat) (R : Nat → Prop) (cs : List Value) (x : Sp) (F : List Nat) : Prop := ∃ v, cs.length = 9 ∧ SpcD w R cs x.1 ∧ cs[8]? = some v ∧ SOwnU w base R v x.2 F
section
variable {w w' : World} {base base' : Nat} {R R' : Nat → Prop} {f g : SpF} {xs ys : List Value} {F G : List Nat}
theorem SOwnT.cons_iff {a : SpD} {k r : SpF} : SOwnT w base R (.cons a k r) xs F ↔ ∃ cs ys F1 F2, xs = cs ++ ys ∧ F = F1 ++ F2 ∧ OwnX w base R cs (a, k) F1 ∧ SOwnT w base R r ys F2 := by
 constructor
 ·intro ⟨cs, ys, zs, F0, F2, v, h1, h2, h3, h4, h5, h6, h7, h8⟩
  exact ⟨cs, ys, _, F2, h1, h2, ⟨v, h3, h4, h5, zs, F0, rfl, h6, h7⟩, h8⟩
 ·intro ⟨cs, ys, F1, F2, h1, h2, ⟨v, h3, h4, h5, zs, F0, h9, h6, h7⟩, h8⟩
  exact ⟨cs, ys, zs, F0, F2, v, h1, by rw [h2, h9], h3, h4, h5, h6, h7, h8⟩
theorem SOwnT.keep (hR : ∀ g, R g → w'.heap[g]? = w.heap[g]?) (hRR : ∀ g, R g → R' g) (hb : base' ≤ base) : ∀ {f : SpF} {xs : List Value} {F : List Nat}, (∀ g, g ∈ F → w'.heap[g]? = w.heap[g]?) → SOwnT w base R f xs F → SOwnT w' base' R' f xs F := by
 intro f
 induction f with
 | nil => intro xs F _ h; exact h
 | cons a k r ihk ihr =>
  intro xs F hF ⟨cs, ys, zs, F0, F2, v, h1, h2, h3, h4, h5, h6, h7, h8⟩
  subst h2
  refine ⟨cs, ys, zs, F0, F2, v, h1, rfl, h3, stay_spc _ _ _ _ _ _ hR hRR h4, h5, (h6.keep (fun g hg => hF g (by simp [hg]))).mono hb, ihk (fun g hg => hF g (by simp [hg])) h7, ihr (fun g hg => hF g (by simp [hg])) h8⟩
theorem SOwnU.keep {v : Value} {k : SpF} (h : SOwnU w base R v k F) (hF : ∀ g, g ∈ F → w'.heap[g]? = w.heap[g]?) (hR : ∀ g, R g → w'.heap[g]? = w.heap[g]?) (hRR : ∀ g, R g → R' g) (hb : base' ≤ base) : SOwnU w' base' R' v k F := by
 obtain ⟨zs, F0, rfl, h1, h2⟩ := h
 exact ⟨zs, F0, rfl, (h1.keep (fun g hg => hF g (by simp [hg]))).mono hb, h2.keep hR hRR hb (fun g hg => hF g (by simp [hg]))⟩
theorem OwnX.keep {cs : List Value} {x : Sp} (h : OwnX w base R cs x F) (hF : ∀ g, g ∈ F → w'.heap[g]? = w.heap[g]?) (hR : ∀ g, R g → w'.heap[g]? = w.heap[g]?) (hRR : ∀ g, R g → R' g) (hb : base' ≤ base) : OwnX w' base' R' cs x F := by
 obtain ⟨v, h1, h2, h3, h4⟩ := h
 exact ⟨v, h1, stay_spc _ _ _ _ _ _ hR hRR h2, h3, h4.keep hF hR hRR hb⟩
theorem SOwnT.fresh : ∀ {f : SpF} {xs : List Value} {F : List Nat}, SOwnT w base R f xs F → ∀ g, g ∈ F → Fresh base w g := by
 intro f
 induction f with
 | nil => intro xs F h g hg; rw [h.2] at hg; cases hg
 | cons a k r ihk ihr =>
  intro xs F ⟨cs, ys, zs, F0, F2, v, h1, h2, h3, h4, h5, h6, h7, h8⟩ g hg
  subst h2
  simp only [List.mem_append, Option.mem_toList] at hg
  rcases hg with (hg | hg) | hg
  ·exact h6.fresh hg
  ·exact ihk h7 g hg
  ·exact ihr h8 g hg
theorem SOwnU.fresh {v : Value} {k : SpF} (h : SOwnU w base R v k F) : ∀ g, g ∈ F → Fresh base w g := by
 obtain ⟨zs, F0, rfl, h1, h2⟩ := h
 intro g hg
 simp only [List.mem_append, Option.mem_toList] at hg
 rcases hg with hg | hg
 ·exact h1.fresh hg
 ·exact h2.fresh g hg
theorem OwnX.fresh {cs : List Value} {x : Sp} (h : OwnX w base R cs x F) : ∀ g, g ∈ F → Fresh base w g := by
 obtain ⟨v, _, _, _, h4⟩ := h
 exact h4.fresh
theorem OwnK.sfrv {S : Nat → Prop} {v : Value} {k : SpF} (h : OwnK 61 9 w base v k.len xs) (hr : rowG SpcD 9 8 w S R xs k) (hS : ∀ g, v.ownBlock = some g → S g) : FrV SpcD 9 8 w S R v k := by
 have hh := h
 rcases h.2 with ⟨rfl, h0⟩ | ⟨g, cap, cur, rfl, hb, hg, hnc, hcm, hcs, ht⟩
 ·exact ⟨none, 0, by rw [h0], by omega, fun h => absurd h (by omega)⟩
 ·refine ⟨_, cap, rfl, hnc, fun h0 => ⟨g, 0, rfl, hS g rfl, hr.at (fun j u hj => ?_)⟩⟩
  have hjl : j < xs.length := (List.getElem?_eq_some_iff.1 hj).1
  have hxl : xs.length = k.len * 9 := h.1
  rw [World.ownsRow.cellAt hh (0 + j) (by omega), Nat.zero_add, hj]
theorem SOwnT.row {S : Nat → Prop} : ∀ {f : SpF} {xs : List Value} {F : List Nat}, (∀ g, g ∈ F → S g) → SOwnT w base R f xs F → rowG SpcD 9 8 w S R xs f := by
 intro f
 induction f with
 | nil => intro xs F _ h; exact h.1
 | cons a k r ihk ihr =>
  intro xs F hF ⟨cs, ys, zs, F0, F2, v, h1, h2, h3, h4, h5, h6, h7, h8⟩
  subst h2
  exact ⟨cs, ys, h1, ⟨h3, h4, v, h5, h6.sfrv (ihk (fun g hg => hF g (by simp [hg])) h7) (fun g hg => hF g (by simp [hg]))⟩, ihr (fun g hg => hF g (by simp [hg])) h8⟩
theorem SOwnU.frv {v : Value} {k : SpF} (h : SOwnU w base R v k F) : FrV SpcD 9 8 w (fun g => g ∈ F) R v k := by
 obtain ⟨zs, F0, rfl, h1, h2⟩ := h
 exact h1.sfrv (h2.row (fun g hg => by simp [hg])) (fun g hg => by simp [hg])
theorem OwnX.spn {cs : List Value} {x : Sp} (h : OwnX w base R cs x F) : SpN w (fun g => g ∈ F) R cs x := by
 obtain ⟨v, h1, h2, h3, h4⟩ := h
 exact ⟨h1, h2, v, h3, h4.frv⟩
theorem OwnX.lt {cs : List Value} {x : Sp} (h : OwnX w base R cs x F) : ∀ g, g ∈ F → g < w.heap.size := fun g hg => (h.fresh g hg).lt
theorem SOwnT.app (h2 : SOwnT w base R g ys G) : ∀ {f : SpF} {xs : List Value} {F : List Nat}, SOwnT w base R f xs F → SOwnT w base R (f.app g) (xs ++ ys) (F ++ G) := by
 intro f
 induction f with
 | nil => intro xs F h; rw [h.1, h.2]; exact h2
 | cons a k r ihk ihr =>
  intro xs F ⟨cs, zs, us, F0, F2, v, h1, h2, h3, h4, h5, h6, h7, h8⟩
  subst h1 h2
  exact ⟨cs, zs ++ ys, us, F0, F2 ++ G, v, by simp, by simp, h3, h4, h5, h6, h7, ihr h8⟩
theorem SOwnT.one {cs : List Value} {x : Sp} (h : OwnX w base R cs x F) : SOwnT w base R (.cons x.1 x.2 .nil) cs F := SOwnT.cons_iff.2 ⟨cs, [], F, [], by simp, by simp, h, rfl, rfl⟩
theorem SOwnT.split (n : Nat) : ∀ {f : SpF} {xs : List Value} {F : List Nat}, SOwnT w base R f xs F → ∃ xs1 xs2 F1 F2, xs = xs1 ++ xs2 ∧ F = F1 ++ F2 ∧ SOwnT w base R (Fr.take n f) xs1 F1 ∧ SOwnT w base R (Fr.drop n f) xs2 F2 := by
 induction n with
 | zero => intro f xs F h; exact ⟨[], xs, [], F, rfl, rfl, by cases f <;> exact ⟨rfl, rfl⟩, by cases f <;> exact h⟩
 | succ n ih =>
  intro f xs F h
  cases f with
  | nil => exact ⟨[], xs, [], F, rfl, rfl, ⟨rfl, rfl⟩, h⟩
  | cons a k r =>
   obtain ⟨cs, ys, F1, F2, rfl, rfl, h1, h2⟩ := SOwnT.cons_iff.1 h
   obtain ⟨ys1, ys2, G1, G2, rfl, rfl, h3, h4⟩ := ih h2
   exact ⟨cs ++ ys1, ys2, F1 ++ G1, G2, by simp, by simp, SOwnT.cons_iff.2 ⟨cs, ys1, F1, G1, rfl, rfl, h1, h3⟩, h4⟩
theorem SOwnT.len (h : SOwnT w base R f xs F) : xs.length = f.len * 9 := (h.row (S := fun g => g ∈ F) (fun _ h => h)).len
theorem SOwnT.at (h : SOwnT w base R f xs F) {i : Nat} {y : Sp} (hy : f.get? i = some y) : ∃ xs1 cs xs2 F1 Fk F2, xs = xs1 ++ (cs ++ xs2) ∧ F = F1 ++ (Fk ++ F2) ∧ xs1.length = i * 9 ∧ SOwnT w base R (Fr.take i f) xs1 F1 ∧ OwnX w base R cs y Fk ∧ SOwnT w base R (Fr.drop (i + 1) f) xs2 F2 := by
 obtain ⟨xs1, xs2, F1, F2, rfl, rfl, h1, h2⟩ := h.split i
 obtain ⟨a, k⟩ := y
 rw [(Fr.get_drop hy).1] at h2
 obtain ⟨cs, ys, G1, G2, rfl, rfl, h3, h4⟩ := SOwnT.cons_iff.1 h2
 exact ⟨xs1, cs, ys, F1, G1, G2, rfl, rfl, by rw [h1.len, Fr.len_take _ _ (by have := Fr.get_lt hy; omega)], h1, h3, h4⟩
theorem SOwnT.upd {i : Nat} {y : Sp} {xs1 xs2 cs : List Value} {F1 F2 Fk : List Nat} (h1 : SOwnT w base R (Fr.take i f) xs1 F1) (h2 : OwnX w base R cs y Fk) (h3 : SOwnT w base R (Fr.drop (i + 1) f) xs2 F2) : SOwnT w base R (supdF i y f) (xs1 ++ (cs ++ xs2)) (F1 ++ (Fk ++ F2)) :=
 SOwnT.app (SOwnT.cons_iff.2 ⟨cs, xs2, Fk, F2, rfl, rfl, h2, h3⟩) h1
end
def SKeeps (base : Nat) (F : List Nat) (w w' : World) : Prop := Below base w w' ∧ ∀ g, g < w.heap.size → g ∉ F → w'.heap[g]? = w.heap[g]?
theorem SKeeps.refl (base : Nat) (F : List Nat) (w : World) : SKeeps base F w w := ⟨Below.refl _ _, fun _ _ _ => rfl⟩
theorem SKeeps.trans {base : Nat} {F G : List Nat} {a b c : World} (h : SKeeps base F a b) (k : SKeeps base G b c) (hG : ∀ g, g ∈ G → g ∈ F ∨ a.heap.size ≤ g) : SKeeps base F a c :=
 ⟨h.1.trans k.1, fun g hg hF => (k.2 g (Nat.lt_of_lt_of_le hg h.1.size) (fun hm => by rcases hG g hm with h' | h'; exact hF h'; omega)).trans (h.2 g hg hF)⟩
def NewX (base : Nat) (w : World) (cs : List Value) (x : Sp) : Prop := ∃ F R, F.Nodup ∧ (∀ g, R g → Fresh base w g ∧ g ∉ F) ∧ OwnX w base R cs x F
theorem NewX.new {base : Nat} {w : World} {cs : List Value} {x : Sp} (h : NewX base w cs x) : NewSp base w cs x := by
 obtain ⟨F, R, h1, h2, h3⟩ := h
 exact ⟨fun g => g ∈ F, R, h3.fresh, h2, h3.spn⟩
structure Sit (w : World) (base : Nat) (R : Nat → Prop) (B : Nat) (F : List Nat) (cs : List Value) (x : Sp) : Prop where
 box : Blk w B 61 cs.toArray
 own : OwnX w base R cs x F
 nd : (B :: F).Nodup
 rlt : ∀ g, R g → g < w.heap.size ∧ g ≠ B ∧ g ∉ F
 hb : base ≤ B
def ChgP (base : Nat) (R : Nat → Prop) (B : Nat) (F : List Nat) (x : Sp) (w : World) (r : Ending) (w' : World) : Prop :=
 r = .returned (.tuple #[]) ∧ ∃ cs F', Sit w' base R B F' cs x ∧ SKeeps base (B :: F) w w' ∧ ∀ g, g ∈ F' → g ∈ F ∨ w.heap.size ≤ g
theorem SpcD.last {w : World} {R : Nat → Prop} {hd : List Value} {v v' : Value} {a : SpD} (h : SpcD w R (hd ++ [v]) a) (hv : v'.oneCell' = true) : SpcD w R (hd ++ [v']) a := by
 obtain ⟨nv, kv, d, e, h2, h3, h4⟩ := h
 have e2 : hd ++ [v] = [.string (txt a.name), .int .i64 (a.kind : Int), .int .i64 (a.typ : Int), .int .u64 (a.low : Int), .int .u64 (a.high : Int), nv, .bool a.must, .int .i64 (a.most : Int)] ++ [kv] := e
 obtain ⟨e3, -⟩ := List.append_inj' e2 rfl
 exact ⟨nv, v', d, by rw [e3]; rfl, h2, h3, hv⟩
theorem SpcD.len {w : World} {R : Nat → Prop} {cs : List Value} {a : SpD} (h : SpcD w R cs a) : cs.length = 9 := by
 obtain ⟨nv, kv, d, e, _⟩ := h
 rw [e]; rfl
theorem SpcD.oneC {w : World} {R : Nat → Prop} {cs : List Value} {a : SpD} (h : SpcD w R cs a) : ∀ u ∈ cs, u.oneCell' = true := one_spc _ _ _ _ h
theorem last_at {hd : List Value} {v : Value} (h : hd.length = 8) : (hd ++ [v])[8]? = some v := by rw [List.getElem?_append_right (by omega), h]; rfl
theorem last_set {hd : List Value} {v v' : Value} (h : hd.length = 8) : ((hd ++ [v]).toArray.setIfInBounds 8 v') = (hd ++ [v']).toArray := by
 rw [List.setIfInBounds_toArray, List.set_append_right _ _ (by omega), h]; rfl
theorem after_sit {w wa w3 : World} {base B : Nat} {R : Nat → Prop} {hd zs lc : List Value} {F0 : List Nat} {v v' : Value} {x : Sp} {d : SpD}
  (box : Blk w B 61 (hd ++ [v]).toArray) (hl : hd.length = 8) (hD : SpcD w R (hd ++ [v]) x.1) (hk : OwnK 61 9 w base v x.2.len zs) (ht : SOwnT w base R x.2 zs F0)
  (nd : (B :: (v.ownBlock.toList ++ F0)).Nodup) (rlt : ∀ g, R g → g < w.heap.size ∧ g ≠ B ∧ g ∉ v.ownBlock.toList ++ F0) (hb : base ≤ B) (hwa : Below w.heap.size w wa)
  (hap : AppK 61 9 wa base v (x.2.len + 1) (zs ++ lc) v' w3) (hld : SpcD w R lc d) (hl8 : lc[8]? = some (.slice none 0 0)) :
  ∃ F', Sit (w3.setCell ⟨B, 8, none⟩ v') base R B F' (hd ++ [v']) (x.1, x.2.app (.cons d .nil .nil)) ∧ SKeeps base (B :: (v.ownBlock.toList ++ F0)) w (w3.setCell ⟨B, 8, none⟩ v') ∧ ∀ g, g ∈ F' → g ∈ v.ownBlock.toList ++ F0 ∨ w.heap.size ≤ g := by
 have hBl := box.lt
 simp only [List.nodup_cons, List.mem_append, Option.mem_toList, not_or, List.nodup_append] at nd
 obtain ⟨⟨nB1, nB2⟩, -, nd0, ndd⟩ := nd
 have hF0 : ∀ g, g ∈ F0 → Fresh base w g := ht.fresh
 have hne : ∀ g, g ∈ F0 → v.ownBlock ≠ some g := fun g hg e => ndd g (by simpa using e) g hg rfl
 -- what is kept
 have kept : ∀ g, g < w.heap.size → g ≠ B → v.ownBlock ≠ some g → (w3.setCell ⟨B, 8, none⟩ v').heap[g]? = w.heap[g]? := fun g hg h1 h2 =>
  (Below.heap_setCell _ _ _ _ h1).trans ((hap.2.1.block g (Nat.lt_of_lt_of_le hg hwa.size) (fun e => h2 e.symm)).trans (hwa.block g hg))
 have hsz : w.heap.size ≤ w3.heap.size := Nat.le_trans hwa.size hap.2.1.size
 have hsz2 : (w3.setCell ⟨B, 8, none⟩ v').heap.size = w3.heap.size := by simp [World.setCell]
 have hR : ∀ g, R g → (w3.setCell ⟨B, 8, none⟩ v').heap[g]? = w.heap[g]? := fun g hg => by
  obtain ⟨h1, h2, h3⟩ := rlt g hg
  simp only [List.mem_append, Option.mem_toList, not_or] at h3
  exact kept g h1 h2 h3.1
 have hv' : ∀ g, v'.ownBlock = some g → g ≠ B ∧ g ∉ F0 ∧ ((v.ownBlock = some g) ∨ w.heap.size ≤ g) := by
  intro g hg
  rcases hap.2.2.1 with h | h
  ·rw [hg] at h
   exact ⟨fun e => nB1 (by rw [← e]; exact h.symm), fun hm => hne g hm h.symm, .inl h.symm⟩
  ·rw [hg] at h
   injection h with h
   have := hwa.size
   exact ⟨by omega, fun hm => by have := (hF0 g hm).lt; omega, .inr (by omega)⟩
 have hone : v'.oneCell' = true := by obtain ⟨g, c, e⟩ := hap.2.2.2; rw [e]; rfl
 refine ⟨v'.ownBlock.toList ++ (F0 ++ []), ⟨?_, ?_, ?_, ?_, hb⟩, ⟨?_, ?_⟩, ?_⟩
 ·have h1 : Blk wa B 61 (hd ++ [v]).toArray := box.below hwa hBl
  have h2 : Blk w3 B 61 (hd ++ [v]).toArray := h1.grown hap.2.1 (fun e => nB1 e.symm)
  have h3 := h2.set_ 8 v'
  rw [last_set hl] at h3
  exact h3
 ·have hD2 : SpcD (w3.setCell ⟨B, 8, none⟩ v') R (hd ++ [v']) x.1 := stay_spc _ _ _ _ _ _ hR (fun _ h => h) (hD.last hone)
  refine ⟨v', by simp [hl], hD2, last_at hl, zs ++ lc, F0 ++ [], rfl, ?_, ?_⟩
  ·have e : (x.2.app (.cons d .nil .nil)).len = x.2.len + 1 := by rw [Fr.len_app]; rfl
   rw [e]
   exact hap.1.keep (fun g hg => Below.heap_setCell _ _ _ _ (hv' g hg).1)
  ·refine SOwnT.app (SOwnT.one (x := (d, .nil)) ⟨.slice none 0 0, hld.len, stay_spc _ _ _ _ _ _ hR (fun _ h => h) hld, hl8, [], [], rfl, OwnK.nil _ _ _ _, rfl, rfl⟩) ?_
   exact ht.keep hR (fun _ h => h) (Nat.le_refl _) (fun g hg => kept g (hF0 g hg).lt (fun e => nB2 (e ▸ hg)) (hne g hg))
 ·simp only [List.append_nil, List.nodup_cons, List.mem_append, Option.mem_toList, not_or, List.nodup_append]
  refine ⟨⟨fun e => (hv' B e).1 rfl, nB2⟩, ?_, nd0, fun a ha b hb' e => ?_⟩
  ·cases v'.ownBlock <;> simp
  ·subst e; exact (hv' a (by simpa using ha)).2.1 hb'
 ·intro g hg
  obtain ⟨h1, h2, h3⟩ := rlt g hg
  simp only [List.mem_append, Option.mem_toList, not_or] at h3
  refine ⟨by omega, h2, ?_⟩
  simp only [List.append_nil, List.mem_append, Option.mem_toList, not_or]
  refine ⟨fun e => ?_, h3.2⟩
  rcases (hv' g e).2.2 with h | h
  ·exact h3.1 h
  ·omega
 ·exact ((hwa.mono (by omega)).trans ((Below.refl _ _).grown hap.2.1 (by have := hwa.size; omega) (fun g hg => (hk.fresh hg).1))).setCell (p := ⟨B, 8, none⟩) hb _
 ·intro g hg hn
  simp only [List.mem_cons, List.mem_append, Option.mem_toList, not_or] at hn
  exact kept g hg hn.1 hn.2.1
 ·intro g hg
  simp only [List.append_nil, List.mem_append, Option.mem_toList] at hg ⊢
  rcases hg with hg | hg
  ·rcases (hv' g hg).2.2 with h | h
   ·exact .inl (.inl h)
   ·exact .inr h
  ·exact .inl (.inr hg)
theorem named_sit {w : World} {base B : Nat} {R : Nat → Prop} {F : List Nat} {x : Sp} {cs : List Value} (n : List UInt8) (h : Sit w base R B F cs x) :
  ∃ cs' F', Sit (w.setCell ⟨B, 0, none⟩ (.string (txt n))) base R B F' cs' ({ x.1 with name := n }, x.2) ∧ SKeeps base (B :: F) w (w.setCell ⟨B, 0, none⟩ (.string (txt n))) ∧ ∀ g, g ∈ F' → g ∈ F ∨ w.heap.size ≤ g := by
 obtain ⟨box, ⟨v, h1, ⟨nv, kv, d, e, h2, h3, h4⟩, h5, h6⟩, nd, rlt, hb⟩ := h
 subst e
 simp at h5
 subst h5
 have kept : ∀ g, g ≠ B → (w.setCell ⟨B, 0, none⟩ (.string (txt n))).heap[g]? = w.heap[g]? := fun g hg => Below.heap_setCell _ _ _ _ hg
 have hsz : (w.setCell ⟨B, 0, none⟩ (.string (txt n))).heap.size = w.heap.size := by simp [World.setCell]
 have nB : ∀ g, g ∈ F → g ≠ B := fun g hg e => (List.nodup_cons.1 nd).1 (e ▸ hg)
 refine ⟨_, F, ⟨box.set_ 0 _, ⟨kv, rfl, stay_spc _ _ _ _ _ _ (fun g hg => kept g (rlt g hg).2.1) (fun _ h => h) ⟨nv, kv, d, rfl, h2, h3, h4⟩, rfl, h6.keep (fun g hg => kept g (nB g hg)) (fun g hg => kept g (rlt g hg).2.1) (fun _ h => h) (Nat.le_refl _)⟩, nd, fun g hg => ?_, hb⟩,
  ⟨(Below.refl _ _).setCell (p := ⟨B, 0, none⟩) hb _, fun g _ hn => kept g (fun e => hn (by simp [e]))⟩, fun g hg => .inl hg⟩
 rw [hsz]
 exact rlt g hg
theorem Blk.new_at {w : World} {g : Nat} (h : w.heap.size = g) (t : TypeId) (cs : Array Value) : Blk (w.alloc (.cells cs t)) g t cs := by subst h; exact Blk.new w t cs
def RetC (cs : List Value) (w : World) (r : Ending) (w' : World) : Prop := r = .returned (.agg cs.toArray) ∧ Below w.heap.size w w'
theorem leaf_any (n : List UInt8) (t : Nat) (w : World) : Calls Tryz.prog 67 #[.string (txt n), .int .i64 (t : Int)] w (RetC (spC ⟨n, 1, t, 0, 0, [], false, 0⟩ (.slice none 0 0) (.slice none 0 0)) w) := by
 go_enter Tryz.func67, Tryz.ntmps67
 go_wp2
 exact bodyPost_ret (results_cell_row rfl _ _ w.heap.size 61 _ (0, 0) _ rfl (heap_alloc_new w _) Tryz.underlying61 rfl (by kernel_rfl)) rfl ⟨rfl, bAl⟩
theorem number_any (n : List UInt8) (t lo hi : Nat) (w : World) : Calls Tryz.prog 70 #[.string (txt n), .int .i64 (t : Int), .int .u64 (lo : Int), .int .u64 (hi : Int)] w (RetC (spC ⟨n, 1, t, lo, hi, [], false, 0⟩ (.slice none 0 0) (.slice none 0 0)) w) := by
 go_enter Tryz.func70, Tryz.ntmps70
 go_wp2
 exact bodyPost_ret (results_cell_row rfl _ _ w.heap.size 61 _ (0, 0) _ rfl (heap_alloc_new w _) Tryz.underlying61 rfl (by kernel_rfl)) rfl ⟨rfl, bAl⟩
theorem choice_any (n : List UInt8) (l : List (List UInt8)) (A : Option Addr) (m c : Nat) (w : World) : Calls Tryz.prog 74 #[.string (txt n), .slice A m c] w (RetC (spC ⟨n, 1, 4, 0, 0, l, false, 0⟩ (.slice A m c) (.slice none 0 0)) w) := by
 go_enter Tryz.func74, Tryz.ntmps74
 go_wp2
 exact bodyPost_ret (results_cell_row rfl _ _ w.heap.size 61 _ (0, 0) _ rfl (heap_alloc_new w _) Tryz.underlying61 rfl (by kernel_rfl)) rfl ⟨rfl, bAl⟩
theorem box_any (n : List UInt8) (A : Option Addr) (m c : Nat) (w : World) : Calls Tryz.prog 66 #[.string (txt n), .slice A m c] w (RetC (spC ⟨n, 2, 0, 0, 0, [], false, 0⟩ (.slice none 0 0) (.slice A m c)) w) := by
 go_enter Tryz.func66, Tryz.ntmps66
 go_wp2
 exact bodyPost_ret (results_cell_row rfl _ _ w.heap.size 61 _ (0, 0) _ rfl (heap_alloc_new w _) Tryz.underlying61 rfl (by kernel_rfl)) rfl ⟨rfl, bAl⟩
theorem list_any (n : List UInt8) (most : Nat) (A : Option Addr) (m c : Nat) (w : World) : Calls Tryz.prog 68 #[.string (txt n), .int .i64 (most : Int), .slice A m c] w (RetC (spC ⟨n, 3, 0, 0, 0, [], false, most⟩ (.slice none 0 0) (.slice A m c)) w) := by
 go_enter Tryz.func68, Tryz.ntmps68
 go_wp2
 exact bodyPost_ret (results_cell_row rfl _ _ w.heap.size 61 _ (0, 0) _ rfl (heap_alloc_new w _) Tryz.underlying61 rfl (by kernel_rfl)) rfl ⟨rfl, bAl⟩
theorem must_any (a : SpD) (B A : Option Addr) (m c k d : Nat) (w : World) : Calls Tryz.prog 69 #[.agg (spC a (.slice B m c) (.slice A k d)).toArray] w (RetC (spC { a with must := true } (.slice B m c) (.slice A k d)) w) := by
 obtain ⟨v, hv⟩ : ∃ v, v = spC { a with must := true } (.slice B m c) (.slice A k d) := ⟨_, rfl⟩
 have HV := hHd hv
 rw [← hv]
 clear hv
 unfold spC
 go_enter Tryz.func69, Tryz.ntmps69
 go_wp2
 refine bodyPost_ret (results_cell_row rfl _ _ (w.heap.size + 1) 61 _ (0, 0) _ rfl (Blk.new_at (by simp) _ _) Tryz.underlying61 rfl (by kernel_rfl)) rfl ⟨by rw [HV.out]; rfl, bAl.alloc (by simp) _⟩
theorem infoP : (Tryz.prog.info? 61).map (fun i => (i.zero, i.size, i.bytes)) = some (some (.agg (cS ⟨#[]⟩ 0 0 0 0 (.slice none 0 0) false 0 (.slice none 0 0))), 9, 112) := by kernel_rfl
def InsP (base b c n : Nat) (xs : List Value) (w : World) (r : Ending) (w' : World) : Prop := ∃ v', r = .returned v' ∧ AppK 61 9 w base (.slice (some ⟨b, 0, none⟩) n c) (n + 1) xs v' w'
theorem sins_any (b c n g base : Nat) (xs ys : List Value) (w : World) (hown : OwnK 61 9 w base (.slice (some ⟨b, 0, none⟩) n c) n xs) (hblk : Blk w g 61 ys.toArray) (hys : ys.length = 9) (hone : ∀ u ∈ ys, u.oneCell' = true) (hn : n ≤ 1000) (hb : base ≤ w.heap.size) :
  Calls Tryz.prog 98 #[.slice (some ⟨b, 0, none⟩) n c, .int .i64 (n : Int), .slice (some ⟨g, 0, none⟩) 1 1] w (InsP base b c n (xs ++ ys) w) := by
 have hnc : n ≤ c := by
  rcases hown.2 with ⟨h, _⟩ | ⟨g', cap, cur, h, _, _, hnc, _⟩
  ·cases h
  ·injection h with _ _ h3; rw [h3]; exact hnc
 have HO := hHd hown
 have HG := hHd hblk
 have HY := hHd hys
 have HN := hHd hone
 have i0 : (0 : Int) ≤ (n : Int) := by omega
 have i1 : (n : Int) ≤ 1000 := by omega
 clear hown hblk hys hone
 by_cases hcn : c = n
 ·subst hcn
  clear hnc
  go_enter Tryz.func98, Tryz.ntmps98
  go_wp2_with (at_builtin; refine wpList_append_k (P := Tryz.prog) (ts := 59) Tryz.underlying59 infoP zeroS (by omega) rfl _ _ rfl rfl base (.slice (some ⟨b, 0, none⟩) c c) c xs rfl HO.out g rfl ys HG.out HY.out HN.out (by omega) (by omega) hb ?_; intro v' w' hap)
  go_ret
  exact ⟨_, rfl, hap⟩
 ·have hlt : n < c := by omega
  clear hcn
  go_enter Tryz.func98, Tryz.ntmps98
  go_wp2_with (at_builtin; refine wpList_append_k (P := Tryz.prog) (ts := 59) Tryz.underlying59 infoP zeroS (by omega) rfl _ _ rfl rfl base (.slice (some ⟨b, 0, none⟩) n c) n xs rfl HO.out g rfl ys HG.out HY.out HN.out (by omega) (by omega) hb ?_; intro v' w' hap)
  go_ret
  exact ⟨_, rfl, hap⟩
theorem named1_any (n : List UInt8) (base B p : Nat) (R : Nat → Prop) (F : List Nat) (cs : List Value) (x : Sp) (w : World) (h : Sit w base R B F cs x) (hp : Blk w p 9 #[.string (txt n)]) :
  Calls Tryz.prog 99 #[.pointer (some ⟨B, 0, none⟩), .pointer (some ⟨p, 0, none⟩)] w (ChgP base R B F ({ x.1 with name := n }, x.2) w) := by
 have HS := hHd (named_sit n h)
 obtain ⟨nv, kv, d, e, -⟩ : ∃ nv kv, ∃ d : Nat, cs = [.string (txt x.1.name), .int .i64 (x.1.kind : Int), .int .i64 (x.1.typ : Int), .int .u64 (x.1.low : Int), .int .u64 (x.1.high : Int), nv, .bool x.1.must, .int .i64 (x.1.most : Int), kv] ∧ True := by
  obtain ⟨v, _, ⟨nv, kv, d, e, _⟩, _⟩ := h.own
  exact ⟨nv, kv, d, e, trivial⟩
 have q0 : w.cell? ⟨B, 0, none⟩ = some (.string (txt x.1.name)) := by rw [h.box.cell, e]; rfl
 have f0 : w.frozen? ⟨B, 0, none⟩ = false := h.box.frozen 0
 have p0 : w.cell? ⟨p, 0, none⟩ = some (.string (txt n)) := hp.cell 0
 clear h hp e
 go_enter Tryz.func99, Tryz.ntmps99
 go_wp2
 go_end0
 exact ⟨rfl, HS.out⟩
end Go.Proofs.YtodlhgflfcadmaaGreat
