/- WayMem DifMem DifOpen PatMak PatBack SclNum SpcNum PthNum PthRefA -/
import Derived.Test.YthmobcaidhgeaaaEM2
import Derived.Lib.AppendZeros
set_option linter.unusedSimpArgs false
set_option linter.unusedVariables false
set_option maxRecDepth 100000
set_option maxHeartbeats 8000000
namespace Go.Proofs.Ythmobcaidhgeaaa
open Go.RowKit
def stC : List Stp → List Value
 | [] => []
 | s :: l => .string (txt s.1) :: .string (txt s.2) :: stC l
theorem stC_len : ∀ l : List Stp, (stC l).length = l.length * 2
 | [] => rfl
 | s :: l => by simp only [stC, List.length_cons, stC_len l]; omega
theorem stC_at : ∀ (l : List Stp) (j : Nat) (s : Stp), l[j]? = some s → (stC l)[j * 2]? = some (.string (txt s.1)) ∧ (stC l)[j * 2 + 1]? = some (.string (txt s.2))
 | [], j, s, h => by simp at h
 | t :: l, 0, s, h => by simp at h; subst h; exact ⟨rfl, rfl⟩
 | t :: l, j + 1, s, h => by
  have h1 := stC_at l j s (by simpa using h)
  rw [show (j + 1) * 2 = j * 2 + 1 + 1 by omega]
  simpa [stC] using h1
def OwnS (base : Nat) (w : World) (v : Value) (l : List Stp) : Prop := OwnK 47 2 w base v l.length (stC l)
section
variable {w w' : World} {base : Nat} {v : Value} {l : List Stp}
theorem OwnS.nil (w : World) (base : Nat) : OwnS base w (.slice none 0 0) [] := OwnK.nil _ _ _ _
theorem OwnS.below (h : OwnS base w v l) (hb : Below w.heap.size w w') : OwnS base w' v l := OwnK.below h hb
theorem OwnS.mono {b : Nat} (h : OwnS base w v l) (hb : b ≤ base) : OwnS b w v l := OwnK.mono h hb
theorem OwnS.lt (h : OwnS base w v l) : ∀ b, v.ownBlock = some b → base ≤ b ∧ b < w.heap.size := OwnK.lt h
theorem OwnS.shape (h : OwnS base w v l) : ∃ A c, v = .slice A l.length c := OwnK.shape h
theorem OwnS.way (h : OwnS base w v l) : WayV w.heap.size w v l := by
 obtain ⟨d, ⟨h0, A, c, rfl, h1, h2⟩, _⟩ := OwnK.row h
 refine ⟨A, c, rfl, h1, fun hp => ?_⟩
 obtain ⟨hlt, off, rfl, hc⟩ := h2 hp
 refine ⟨d, off, rfl, hlt, fun j s hs => ?_⟩
 obtain ⟨g1, g2⟩ := stC_at l j s hs
 exact ⟨hc _ _ g1, by have := hc _ _ g2; rwa [← Nat.add_assoc] at this⟩
end
theorem OwnS.one {w : World} (s : Stp) {base : Nat} (hb : base ≤ w.heap.size) : OwnS base (w.alloc (.cells #[.string (txt s.1), .string (txt s.2)] 47)) (.slice (some ⟨w.heap.size, 0, none⟩) 1 1) [s] :=
 ⟨rfl, .inr ⟨w.heap.size, 1, #[.string (txt s.1), .string (txt s.2)], rfl, hb, Blk.new w _ _, Nat.le_refl _, by unfold maxLen; omega, rfl, rfl⟩⟩
theorem OwnS.two {w : World} (s t : Stp) {base : Nat} (hb : base ≤ w.heap.size) : OwnS base (w.alloc (.cells #[.string (txt s.1), .string (txt s.2), .string (txt t.1), .string (txt t.2)] 47)) (.slice (some ⟨w.heap.size, 0, none⟩) 2 2) [s, t] :=
 ⟨rfl, .inr ⟨w.heap.size, 2, #[.string (txt s.1), .string (txt s.2), .string (txt t.1), .string (txt t.2)], rfl, hb, Blk.new w _ _, Nat.le_refl _, by unfold maxLen; omega, rfl, rfl⟩⟩
theorem WayV.cells {b : Nat} {w : World} {A : Option Addr} {c : Nat} {l : List Stp} (h : WayV b w (.slice A l.length c) l) (h0 : 0 < l.length) : ∃ ad : Addr, A = some ad ∧ ∀ j u, (stC l)[j]? = some u → w.cell? (ad.add j) = some u := by
 obtain ⟨A', c', e, h1, h2⟩ := h
 injection e with e1 e2 e3
 subst e1 e3
 obtain ⟨g, o, rfl, hg, hc⟩ := h2 h0
 refine ⟨_, rfl, fun j u hu => ?_⟩
 have e1 : (⟨g, o, none⟩ : Addr).add j = ⟨g, o + j, none⟩ := by unfold Addr.add; split <;> simp_all
 rw [e1]
 have hj : j < (stC l).length := (List.getElem?_eq_some_iff.1 hu).1
 rw [stC_len] at hj
 obtain ⟨s, hs⟩ : ∃ s, l[j / 2]? = some s := ⟨_, List.getElem?_eq_getElem (by omega)⟩
 obtain ⟨g1, g2⟩ := stC_at l (j / 2) s hs
 obtain ⟨k1, k2⟩ := hc _ _ hs
 rcases Nat.mod_two_eq_zero_or_one j with h | h
 ·have hj2 : j / 2 * 2 = j := by omega
  rw [hj2] at g1 k1
  rw [hu] at g1
  rw [k1, g1]
 ·have hj2 : j / 2 * 2 + 1 = j := by omega
  rw [hj2] at g2
  rw [hu] at g2
  rw [show o + j = o + j / 2 * 2 + 1 by omega, k2, g2]
def WayS (S : Nat → Prop) (w : World) (v : Value) (l : List Stp) : Prop := ∃ A c, v = .slice A l.length c ∧ l.length ≤ c ∧ (0 < l.length → ∃ g o, A = some ⟨g, o, none⟩ ∧ S g ∧
 ∀ j s, l[j]? = some s → w.cell? ⟨g, o + j * 2, none⟩ = some (.string (txt s.1)) ∧ w.cell? ⟨g, o + j * 2 + 1, none⟩ = some (.string (txt s.2)))
theorem WayS.keep {S S' : Nat → Prop} {w w' : World} {v : Value} {l : List Stp} (h : WayS S w v l) (hk : ∀ g, S g → w'.heap[g]? = w.heap[g]?) (hS : ∀ g, S g → S' g) : WayS S' w' v l := by
 obtain ⟨A, c, rfl, h1, h2⟩ := h
 refine ⟨A, c, rfl, h1, fun h0 => ?_⟩
 obtain ⟨g, o, rfl, h3, h4⟩ := h2 h0
 exact ⟨g, o, rfl, hS g h3, fun j s hs => ⟨(World.cell?_of_block (w := w) (a := ⟨g, o + j * 2, none⟩) (hk g h3)).trans (h4 j s hs).1, (World.cell?_of_block (w := w) (a := ⟨g, o + j * 2 + 1, none⟩) (hk g h3)).trans (h4 j s hs).2⟩⟩
theorem WayS.v {b : Nat} {w : World} {v : Value} {l : List Stp} (h : WayS (fun g => g < b) w v l) : WayV b w v l := h
theorem WayV.s {b : Nat} {w : World} {v : Value} {l : List Stp} (h : WayV b w v l) : WayS (fun g => g < b) w v l := h
theorem WayS.shape {S : Nat → Prop} {w : World} {v : Value} {l : List Stp} (h : WayS S w v l) : ∃ A c, v = .slice A l.length c := by
 obtain ⟨A, c, e, _⟩ := h; exact ⟨A, c, e⟩
theorem WayS.nil (S : Nat → Prop) (w : World) : WayS S w (.slice none 0 0) [] := ⟨none, 0, rfl, Nat.le_refl _, fun h => absurd h (by simp)⟩
abbrev RowS (S : Nat → Prop) (w : World) (v : Value) (f : NdF) : Prop := FrV NdT 6 5 w S noB v f
theorem RowS.keep {S S' : Nat → Prop} {w w' : World} {v : Value} {f : NdF} (h : RowS S w v f) (hk : ∀ g, S g → w'.heap[g]? = w.heap[g]?) (hS : ∀ g, S g → S' g) : RowS S' w' v f :=
 FrV.kept stay_nd h hk hS (fun _ h => h.elim) (fun _ h => h)
abbrev edC (k : Int) (wv : Value) (n : NdD) (nv : Value) (o : NdD) (ov : Value) : List Value := [.int .i64 k, wv, .string (txt n.name), .string (txt n.key), .int .i64 n.kind, .int .u64 (n.num : Int), .string (txt n.text), nv, .string (txt o.name), .string (txt o.key), .int .i64 o.kind, .int .u64 (o.num : Int), .string (txt o.text), ov]
def EdS (S : Nat → Prop) (w : World) (cs : List Value) (e : EdD) : Prop := ∃ wv nv ov, cs = edC e.kind wv e.node.1 nv e.old.1 ov ∧ WayS S w wv e.way ∧ RowS S w nv e.node.2 ∧ RowS S w ov e.old.2
theorem EdS.keep {S S' : Nat → Prop} {w w' : World} {cs : List Value} {e : EdD} (h : EdS S w cs e) (hk : ∀ g, S g → w'.heap[g]? = w.heap[g]?) (hS : ∀ g, S g → S' g) : EdS S' w' cs e := by
 obtain ⟨wv, nv, ov, rfl, h1, h2, h3⟩ := h
 exact ⟨wv, nv, ov, rfl, h1.keep hk hS, RowS.keep h2 hk hS, RowS.keep h3 hk hS⟩
theorem EdS.len {S : Nat → Prop} {w : World} {cs : List Value} {e : EdD} (h : EdS S w cs e) : cs.length = 14 := by
 obtain ⟨_, _, _, rfl, _⟩ := h; rfl
theorem EdS.one {S : Nat → Prop} {w : World} {cs : List Value} {e : EdD} (h : EdS S w cs e) : ∀ u ∈ cs, u.oneCell' = true := by
 obtain ⟨wv, nv, ov, rfl, h1, h2, h3⟩ := h
 obtain ⟨_, _, rfl⟩ := h1.shape
 obtain ⟨_, _, rfl⟩ := h2.shape
 obtain ⟨_, _, rfl⟩ := h3.shape
 intro u hu
 simp only [List.mem_cons, List.not_mem_nil, or_false] at hu
 rcases hu with rfl | rfl | rfl | rfl | rfl | rfl | rfl | rfl | rfl | rfl | rfl | rfl | rfl | rfl <;> rfl
theorem EdS.shape {S : Nat → Prop} {w : World} {cs : List Value} {e : EdD} (h : EdS S w cs e) : ∃ Aw cw An cn Ao co, cs = edC e.kind (.slice Aw e.way.length cw) e.node.1 (.slice An e.node.2.len cn) e.old.1 (.slice Ao e.old.2.len co) ∧ WayS S w (.slice Aw e.way.length cw) e.way ∧ RowS S w (.slice An e.node.2.len cn) e.node.2 ∧ RowS S w (.slice Ao e.old.2.len co) e.old.2 := by
 obtain ⟨wv, nv, ov, rfl, h1, h2, h3⟩ := h
 obtain ⟨Aw, cw, rfl⟩ := h1.shape
 obtain ⟨An, cn, rfl⟩ := h2.shape
 obtain ⟨Ao, co, rfl⟩ := h3.shape
 exact ⟨_, _, _, _, _, _, rfl, h1, h2, h3⟩
def rowE (S : Nat → Prop) (w : World) : List Value → List EdD → Prop
 | xs, [] => xs = []
 | xs, e :: l => ∃ cs ys, xs = cs ++ ys ∧ EdS S w cs e ∧ rowE S w ys l
theorem rowE.keep {S S' : Nat → Prop} {w w' : World} : ∀ {l : List EdD} {xs : List Value}, rowE S w xs l → (∀ g, S g → w'.heap[g]? = w.heap[g]?) → (∀ g, S g → S' g) → rowE S' w' xs l := by
 intro l
 induction l with
 | nil => intro xs h _ _; exact h
 | cons e l ih => intro xs ⟨cs, ys, h1, h2, h3⟩ hk hS; exact ⟨cs, ys, h1, h2.keep hk hS, ih h3 hk hS⟩
theorem rowE.len {S : Nat → Prop} {w : World} : ∀ {l : List EdD} {xs : List Value}, rowE S w xs l → xs.length = l.length * 14 := by
 intro l
 induction l with
 | nil => intro xs h; rw [show xs = [] from h]; rfl
 | cons e l ih => intro xs ⟨cs, ys, h1, h2, h3⟩; rw [h1, List.length_append, h2.len, ih h3, List.length_cons]; omega
theorem rowE.one {S : Nat → Prop} {w : World} : ∀ {l : List EdD} {xs : List Value}, rowE S w xs l → ∀ u ∈ xs, u.oneCell' = true := by
 intro l
 induction l with
 | nil => intro xs h u hu; rw [show xs = [] from h] at hu; cases hu
 | cons e l ih =>
  intro xs ⟨cs, ys, h1, h2, h3⟩ u hu
  rw [h1] at hu
  rcases List.mem_append.1 hu with hu | hu
  ·exact h2.one u hu
  ·exact ih h3 u hu
theorem rowE.app {S : Nat → Prop} {w : World} {m : List EdD} {ys : List Value} (h2 : rowE S w ys m) : ∀ {l : List EdD} {xs : List Value}, rowE S w xs l → rowE S w (xs ++ ys) (l ++ m) := by
 intro l
 induction l with
 | nil => intro xs h; rw [show xs = [] from h]; exact h2
 | cons e l ih => intro xs ⟨cs, zs, h1, h3, h4⟩; exact ⟨cs, zs ++ ys, by rw [h1, List.append_assoc], h3, ih h4⟩
theorem rowE.one_ {S : Nat → Prop} {w : World} {cs : List Value} {e : EdD} (h : EdS S w cs e) : rowE S w cs [e] := ⟨cs, [], by simp, h, rfl⟩
theorem rowE.at {S : Nat → Prop} {w : World} : ∀ {l : List EdD} {xs : List Value} {j : Nat} {e : EdD}, rowE S w xs l → l[j]? = some e → ∃ cs, EdS S w cs e ∧ ∀ i u, cs[i]? = some u → xs[j * 14 + i]? = some u := by
 intro l
 induction l with
 | nil => intro xs j e _ h; simp at h
 | cons d l ih =>
  intro xs j e ⟨cs, ys, h1, h2, h3⟩ h
  subst h1
  cases j with
  | zero =>
   simp at h
   subst h
   refine ⟨cs, h2, fun i u hu => ?_⟩
   rw [Nat.zero_mul, Nat.zero_add, List.getElem?_append_left (List.getElem?_eq_some_iff.1 hu).1]
   exact hu
  | succ j =>
   obtain ⟨zs, g1, g2⟩ := ih h3 (by simpa using h)
   refine ⟨zs, g1, fun i u hu => ?_⟩
   rw [List.getElem?_append_right (by rw [h2.len]; omega), h2.len, show (j + 1) * 14 + i - 14 = j * 14 + i by omega]
   exact g2 i u hu
def EdsV (S : Nat → Prop) (w : World) (v : Value) (l : List EdD) : Prop := ∃ A c, v = .slice A l.length c ∧ l.length ≤ c ∧ (0 < l.length → ∃ g o xs, A = some ⟨g, o, none⟩ ∧ S g ∧ rowE S w xs l ∧ ∀ j u, xs[j]? = some u → w.cell? ⟨g, o + j, none⟩ = some u)
theorem EdsV.keep {S S' : Nat → Prop} {w w' : World} {v : Value} {l : List EdD} (h : EdsV S w v l) (hk : ∀ g, S g → w'.heap[g]? = w.heap[g]?) (hS : ∀ g, S g → S' g) : EdsV S' w' v l := by
 obtain ⟨A, c, rfl, h1, h2⟩ := h
 refine ⟨A, c, rfl, h1, fun h0 => ?_⟩
 obtain ⟨g, o, xs, rfl, h3, h4, h5⟩ := h2 h0
 exact ⟨g, o, xs, rfl, hS g h3, h4.keep hk hS, fun j u hu => (World.cell?_of_block (w := w) (a := ⟨g, o + j, none⟩) (hk g h3)).trans (h5 j u hu)⟩
theorem EdsV.shape {S : Nat → Prop} {w : World} {v : Value} {l : List EdD} (h : EdsV S w v l) : ∃ A c, v = .slice A l.length c := by
 obtain ⟨A, c, e, _⟩ := h; exact ⟨A, c, e⟩
theorem EdsV.nil (S : Nat → Prop) (w : World) : EdsV S w (.slice none 0 0) [] := ⟨none, 0, rfl, Nat.le_refl _, fun h => absurd h (by simp)⟩
theorem EdsV.at {S : Nat → Prop} {w : World} {A : Option Addr} {n c : Nat} {l : List EdD} (h : EdsV S w (.slice A n c) l) {j : Nat} {e : EdD} (hj : l[j]? = some e) :
  ∃ g o Aw cw An cn Ao co, A = some ⟨g, o, none⟩ ∧ n = l.length ∧ n ≤ c ∧ S g ∧ WayS S w (.slice Aw e.way.length cw) e.way ∧ RowS S w (.slice An e.node.2.len cn) e.node.2 ∧ RowS S w (.slice Ao e.old.2.len co) e.old.2 ∧
   ∀ i u, (edC e.kind (.slice Aw e.way.length cw) e.node.1 (.slice An e.node.2.len cn) e.old.1 (.slice Ao e.old.2.len co))[i]? = some u → w.cell? ⟨g, o + j * 14 + i, none⟩ = some u := by
 obtain ⟨A', c', e', h1, h2⟩ := h
 injection e' with e1 e2 e3
 subst e1 e2 e3
 have hlt := (List.getElem?_eq_some_iff.1 hj).1
 obtain ⟨g, o, xs, rfl, h3, h4, h5⟩ := h2 (by omega)
 obtain ⟨cs, k1, k2⟩ := h4.at hj
 obtain ⟨Aw, cw, An, cn, Ao, co, rfl, k3, k4, k5⟩ := k1.shape
 refine ⟨g, o, Aw, cw, An, cn, Ao, co, rfl, rfl, h1, h3, k3, k4, k5, fun i u hu => ?_⟩
 rw [Nat.add_assoc]
 exact h5 _ _ (k2 i u hu)
def OwnE (base : Nat) (S : Nat → Prop) (w : World) (v : Value) (l : List EdD) : Prop := (∀ g, S g → g < w.heap.size ∧ some g ≠ v.ownBlock) ∧ ∃ xs, OwnK 37 14 w base v l.length xs ∧ rowE S w xs l
section
variable {base : Nat} {S S' : Nat → Prop} {w w' : World} {v v' : Value} {l m : List EdD}
theorem OwnE.nil (w : World) (base : Nat) (hS : ∀ g, S g → g < w.heap.size) : OwnE base S w (.slice none 0 0) [] := ⟨fun g h => ⟨hS g h, by intro h; cases h⟩, [], OwnK.nil _ _ _ _, rfl⟩
theorem OwnE.below (h : OwnE base S w v l) (hb : Below w.heap.size w w') : OwnE base S w' v l := by
 obtain ⟨hS, xs, h1, h2⟩ := h
 exact ⟨fun g hg => ⟨Nat.lt_of_lt_of_le (hS g hg).1 hb.size, (hS g hg).2⟩, xs, h1.below hb, h2.keep (fun g hg => hb.block g (hS g hg).1) (fun _ h => h)⟩
theorem OwnE.widen (h : OwnE base S w v l) (hS : ∀ g, S g → S' g) (hS2 : ∀ g, S' g → g < w.heap.size ∧ some g ≠ v.ownBlock) : OwnE base S' w v l := by
 obtain ⟨_, xs, h1, h2⟩ := h
 exact ⟨hS2, xs, h1, h2.keep (fun _ _ => rfl) hS⟩
theorem OwnE.lt (h : OwnE base S w v l) : ∀ k, v.ownBlock = some k → base ≤ k ∧ k < w.heap.size := by
 obtain ⟨_, xs, h1, _⟩ := h
 exact h1.lt
theorem OwnE.shape (h : OwnE base S w v l) : ∃ A c, v = .slice A l.length c := by
 obtain ⟨_, xs, h1, _⟩ := h
 exact h1.shape
theorem OwnE.eds (h : OwnE base S w v l) : EdsV (fun g => S g ∨ v.ownBlock = some g) w v l := by
 obtain ⟨hS, xs, h1, h2⟩ := h
 have h2' : rowE (fun g => S g ∨ v.ownBlock = some g) w xs l := h2.keep (fun _ _ => rfl) (fun g hg => .inl hg)
 have hh := h1
 rcases h1.2 with ⟨rfl, h0⟩ | ⟨g, cap, cur, rfl, hb, hg, hnc, hcm, hcs, ht⟩
 ·exact ⟨none, 0, by rw [h0], by omega, fun h => absurd h (by omega)⟩
 ·refine ⟨_, cap, rfl, hnc, fun h0 => ⟨g, 0, xs, rfl, .inr rfl, h2', fun j u hj => ?_⟩⟩
  have hjl : j < xs.length := (List.getElem?_eq_some_iff.1 hj).1
  have hxl : xs.length = l.length * 14 := h1.1
  rw [World.ownsRow.cellAt hh (0 + j) (by omega), Nat.zero_add, hj]
theorem OwnE.app {xs ys : List Value} (hown : OwnE base S w v l) (hxr : rowE S w xs l) (h1 : OwnK 37 14 w' base v' (l ++ m).length (xs ++ ys)) (h2 : w.grownBy w' v.ownBlock) (h3 : v'.ownBlock = v.ownBlock ∨ v'.ownBlock = some w.heap.size) (hy : rowE S w ys m) : OwnE base S w' v' (l ++ m) := by
 obtain ⟨hS, _⟩ := hown
 have sep : ∀ k, k < w.heap.size → some k ≠ v.ownBlock → some k ≠ v'.ownBlock := by
  intro k hk hne
  rcases h3 with h | h
  ·rw [h]; exact hne
  ·rw [h]; intro h'; injection h' with h'; omega
 exact ⟨fun k hk => ⟨Nat.lt_of_lt_of_le (hS k hk).1 h2.size, sep k (hS k hk).1 (hS k hk).2⟩, xs ++ ys, h1, (rowE.app hy hxr).keep (fun k hk => h2.block k (hS k hk).1 (hS k hk).2) (fun _ h => h)⟩
end
def AppE (base : Nat) (S : Nat → Prop) (w : World) (v : Value) (l : List EdD) (v' : Value) (w' : World) : Prop := OwnE base S w' v' l ∧ w.grownBy w' v.ownBlock ∧ ∃ A c, v' = .slice A l.length c
theorem AppE.below {base : Nat} {S : Nat → Prop} {w w' : World} {v v' : Value} {l m : List EdD} (h : AppE base S w v m v' w') (hown : OwnE base S w v l) (hb : base ≤ w.heap.size) : Below base w w' :=
 ⟨h.2.1.os, h.2.1.tape, h.2.1.output, h.2.1.size, fun i hi => h.2.1.block i (Nat.lt_of_lt_of_le hi hb) (fun e => by have := (hown.lt i e.symm).1; omega)⟩
section
open Go.ChangeShapes Go.WideShapes Go.Deep
theorem cellsEdit : Try.prog.cellsOf 37 = 14 := by kernel_rfl
theorem cellsWay16 : Try.prog.cellsOf 35 = 1 := by kernel_rfl
theorem edit_cells {H : Type} {enc : TypeId × Value → H} {W : World} {n : Nat} {cs : List Value} {x : DataW H × List MemPlace} (h : DataW.trod enc Try.prog W 0 (fun _ => true) true n 37 cs = some x) :
  ∃ e : EdD, EdS (fun g => g < W.heap.size) W cs e ∧ 2 * e.node.2.size + 1 ≤ Rows.uptoBulk x.1 ∧ 2 * e.old.2.size + 1 ≤ Rows.uptoBulk x.1 ∧ 8 ≤ Rows.uptoBulk x.1 := by
 obtain ⟨ys, k, hk, hy, hlen, hyl, hf⟩ := DataW.trod_struct Try.underlying37 h
 rw [cellsEdit] at hlen
 have hyl' : ys.length = 4 := hyl
 match cs, hlen, ys, hyl', hy with
 | [v0, v1, v2, v3, v4, v5, v6, v7, v8, v9, v10, v11, v12, v13], _, [y0, y1, y2, y3], _, hy =>
  have f0 : DataW.trod enc Try.prog W 0 (fun _ => true) true k 3 (List.take (Try.prog.cellsOf 3) (List.drop 0 [v0, v1, v2, v3, v4, v5, v6, v7, v8, v9, v10, v11, v12, v13])) = some _ := (hf 0 _ rfl).trans rfl
  have f1 : DataW.trod enc Try.prog W 0 (fun _ => true) true k 35 (List.take (Try.prog.cellsOf 35) (List.drop 1 [v0, v1, v2, v3, v4, v5, v6, v7, v8, v9, v10, v11, v12, v13])) = some _ := (hf 1 _ rfl).trans rfl
  have f2 : DataW.trod enc Try.prog W 0 (fun _ => true) true k 27 (List.take (Try.prog.cellsOf 27) (List.drop 2 [v0, v1, v2, v3, v4, v5, v6, v7, v8, v9, v10, v11, v12, v13])) = some _ := (hf 2 _ rfl).trans rfl
  have f3 : DataW.trod enc Try.prog W 0 (fun _ => true) true k 27 (List.take (Try.prog.cellsOf 27) (List.drop 8 [v0, v1, v2, v3, v4, v5, v6, v7, v8, v9, v10, v11, v12, v13])) = some _ := (hf 3 _ rfl).trans rfl
  rw [cellsInt9] at f0
  rw [cellsWay16] at f1
  rw [cellsNode] at f2 f3
  simp only [List.drop_zero, List.drop_succ_cons, List.take_succ_cons, List.take_zero] at f0 f1 f2 f3
  obtain ⟨kd, e0, _, _⟩ := DataW.trod_int Try.underlying3 f0
  obtain ⟨l, hl, _⟩ := open_way f1
  obtain ⟨a, c5, n1, z1, _, ea, hz1, hb1⟩ := node_cells f2
  obtain ⟨b, d5, n2, z2, _, eb, hz2, hb2⟩ := node_cells f3
  obtain ⟨f, hf1, hf2⟩ := open_nodes n1 (Nat.le_refl _) hz1
  obtain ⟨g, hg1, hg2⟩ := open_nodes n2 (Nat.le_refl _) hz2
  simp at e0
  subst e0
  simp only [ndC, List.cons.injEq, and_true] at ea eb
  obtain ⟨rfl, rfl, rfl, rfl, rfl, rfl⟩ := ea
  obtain ⟨rfl, rfl, rfl, rfl, rfl, rfl⟩ := eb
  have hx : x.1 = .agg [y0.1, y1.1, y2.1, y3.1] := congrArg Prod.fst hy
  refine ⟨⟨kd, l, (a, f), (b, g)⟩, ⟨_, _, _, rfl, hl.s, hf1, hg1⟩, ?_, ?_, ?_⟩
  all_goals
   rw [hx]
   simp only [Rows.uptoBulk, Rows.uptoBulkAll]
   omega
theorem open_edits {H : Type} {enc : TypeId × Value → H} {W : World} {fuel : Nat} {v : Value} {x : DataW H × List MemPlace} (h : DataW.trod enc Try.prog W 0 (fun _ => true) true fuel 28 [v] = some x) :
  ∃ l, EdsV (fun g => g < W.heap.size) W v l ∧ 8 * l.length ≤ Rows.uptoBulk x.1 ∧ ∀ e ∈ l, 2 * e.node.2.size ≤ Rows.uptoBulk x.1 ∧ 2 * e.old.2.size ≤ Rows.uptoBulk x.1 := by
 rcases DataW.trod_slice Try.underlying28 h with ⟨hcs, rfl⟩ | ⟨a, len, cap, elems, rest, n, rfl, hcs, rfl, hb, hl, hm, hlen, hel, -, -⟩
 ·simp at hcs
  subst hcs
  exact ⟨[], EdsV.nil _ _, by simp, by simp⟩
 ·simp at hcs
  subst hcs
  by_cases h0 : 0 < len
  ·have hcell0 : ∃ u, W.cell? a = some u := by
    have h1 := hel 0 h0
    rw [List.getElem?_eq_getElem (by omega)] at h1
    obtain ⟨cs', h2, _⟩ := Option.bind_eq_some_iff.1 h1
    rw [cellsEdit] at h2
    obtain ⟨_, h3, h4⟩ := World.cells?_some h2
    have h5 := h4 0 (by omega)
    rw [List.getElem?_eq_getElem (by omega)] at h5
    exact ⟨_, by simpa [Addr.add] using h5⟩
   obtain ⟨u0, hu0⟩ := hcell0
   have hsp0 : a.spot = none := World.cell?_spot hu0
   have hlt : a.block < W.heap.size := World.block_lt_of_cell? W _ hu0
   obtain ⟨b, off, sp⟩ := a
   have hsp : sp = none := hsp0
   subst hsp
   have rows : ∀ m, m ≤ len → ∃ (l : List EdD) (xs : List Value), l.length = m ∧ rowE (fun g => g < W.heap.size) W xs l ∧ (∀ j u, xs[j]? = some u → W.cell? ⟨b, off + (len - m) * 14 + j, none⟩ = some u) ∧ 8 * l.length ≤ Rows.uptoBulkAll ((elems.drop (len - m)).map (·.1)) ∧ ∀ e ∈ l, 2 * e.node.2.size ≤ Rows.uptoBulkAll ((elems.drop (len - m)).map (·.1)) ∧ 2 * e.old.2.size ≤ Rows.uptoBulkAll ((elems.drop (len - m)).map (·.1)) := by
    intro m
    induction m with
    | zero => intro _; exact ⟨[], [], rfl, rfl, fun j u h => by simp at h, by simp, by simp⟩
    | succ m ihm =>
     intro hm'
     obtain ⟨r, xr, hr1, hr2, hr3, hr4, hr5⟩ := ihm (by omega)
     obtain ⟨i, hi⟩ : ∃ i, i = len - (m + 1) := ⟨_, rfl⟩
     have hi1 : len - m = i + 1 := by omega
     have hil : i < len := by omega
     rw [hi1] at hr3 hr4 hr5
     rw [← hi]
     have h1 := hel i hil
     have hie : i < elems.length := by omega
     rw [List.getElem?_eq_getElem hie] at h1
     obtain ⟨cs', h2, h3⟩ := Option.bind_eq_some_iff.1 h1
     rw [cellsEdit] at h2
     obtain ⟨_, hcl, hat⟩ := World.cells?_some h2
     have hcc : ∀ j, j < 14 → W.cell? ⟨b, off + i * 14 + j, none⟩ = cs'[j]? := fun j hj => by
      have h5 := hat j hj
      rw [add_bare9, add_bare9] at h5
      exact h5
     obtain ⟨e, he, hb1, hb2, hb3⟩ := edit_cells h3
     have hdrop : (elems.drop i).map (·.1) = (elems[i]).1 :: (elems.drop (i + 1)).map (·.1) := by rw [List.drop_eq_getElem_cons hie]; rfl
     refine ⟨e :: r, cs' ++ xr, by simp [hr1], ⟨cs', xr, rfl, he, hr2⟩, fun j u hj => ?_, ?_, fun y hy => ?_⟩
     ·by_cases hj14 : j < 14
      ·rw [List.getElem?_append_left (by rw [hcl]; exact hj14)] at hj
       rw [hcc j hj14, hj]
      ·rw [List.getElem?_append_right (by rw [hcl]; omega), hcl] at hj
       have h9 := hr3 _ u hj
       rw [show off + (i + 1) * 14 + (j - 14) = off + i * 14 + j by omega] at h9
       exact h9
     ·rw [hdrop]
      simp only [List.length_cons, Rows.uptoBulkAll]
      omega
     ·rw [hdrop]
      simp only [Rows.uptoBulkAll]
      rcases List.mem_cons.1 hy with rfl | hy
      ·omega
      ·have := hr5 y hy
       omega
   obtain ⟨l, xs, hl1, hl2, hl3, hl4, hl5⟩ := rows len (Nat.le_refl _)
   rw [Nat.sub_self, Nat.zero_mul, Nat.add_zero] at hl3
   rw [Nat.sub_self, List.drop_zero] at hl4 hl5
   subst hl1
   refine ⟨l, ⟨_, cap, rfl, by omega, fun _ => ⟨b, off, xs, rfl, hlt, hl2, hl3⟩⟩, ?_, fun e he => ?_⟩
   ·simp only [Rows.uptoBulk]
    omega
   ·have := hl5 e he
    simp only [Rows.uptoBulk]
    omega
  ·obtain rfl : len = 0 := by omega
   exact ⟨[], ⟨_, cap, rfl, by omega, fun h => absurd h (by simp)⟩, by simp, by simp⟩
end
def oneX (n : Nd) (x : EdD) : Nd × Nat :=
 if (x.kind ≠ 1 ∧ x.kind ≠ 2 ∧ x.kind ≠ 3) ∨ x.way = [] ∨ (x.kind ≠ 2 ∧ x.way.getLast? ≠ some (stp x.node.1)) ∨ (x.kind ≠ 1 ∧ x.way.getLast? ≠ some (stp x.old.1)) then (noN, 1)
 else if x.kind = 1 ∧ (GetX n x.way).2 = true then (noN, 24)
 else if x.kind ≠ 1 ∧ (GetX n x.way).2 = false then (noN, 30)
 else if (x.kind ≠ 1 ∧ (GetX n x.way).1 ≠ x.old) ∨ (x.kind = 3 ∧ (x.node.1.kind = 0 ∨ x.old.1.kind = 0)) then (noN, 23)
 else if x.kind = 2 then CutX n x.way else SetX n x.way x.node
def runXE : Nd → List EdD → Nat → Nd × Nat × Nat
 | n, [], _ => (n, 0, 0)
 | n, x :: l, i => if (oneX n x).2 = 0 then runXE (oneX n x).1 l (i + 1) else (noN, (oneX n x).2, i)
def Goes (n : Nd) (l : List EdD) (m : Nd) : Prop := ∀ i, runXE n l i = (m, 0, 0)
theorem Goes.nil (n : Nd) : Goes n [] n := fun _ => rfl
theorem Goes.cons {n k m : Nd} {x : EdD} {l : List EdD} (h : oneX n x = (k, 0)) (h2 : Goes k l m) : Goes n (x :: l) m := fun i => by
 simp only [runXE, h]
 exact h2 (i + 1)
theorem Goes.app {m k : Nd} {l2 : List EdD} (h2 : Goes k l2 m) : ∀ {l : List EdD} {n : Nd}, Goes n l k → Goes n (l ++ l2) m := by
 intro l
 induction l with
 | nil =>
  intro n h
  have h1 := h 0
  simp only [runXE, Prod.mk.injEq, and_true] at h1
  subst h1
  exact h2
 | cons x l ih =>
  intro n h i
  have h1 : ∀ j, runXE n (x :: l) j = (k, 0, 0) := h
  simp only [runXE] at h1
  show runXE n (x :: (l ++ l2)) i = _
  simp only [runXE]
  by_cases hx : (oneX n x).2 = 0
  ·simp only [if_pos hx] at h1 ⊢
   refine ih (n := (oneX n x).1) (fun j => ?_) (i + 1)
   have hmv : ∀ (l : List EdD) (n : Nd) (i j : Nat), (runXE n l i).2.1 = 0 → runXE n l j = runXE n l i := by
    intro l
    induction l with
    | nil => intro n i j _; rfl
    | cons y l ih2 =>
     intro n i j h9
     simp only [runXE] at h9 ⊢
     by_cases hy : (oneX n y).2 = 0
     ·simp only [if_pos hy] at h9 ⊢
      exact ih2 _ _ _ h9
     ·simp only [if_neg hy] at h9
      exact absurd h9 hy
   exact (hmv l _ 1 j (by rw [h1 0])).trans (h1 0)
  ·have h3 := h1 0
   rw [if_neg hx] at h3
   injection h3 with e1 e2
   injection e2 with e3 e4
   exact absurd e3 hx
theorem getX_none17 {n : Nd} {w : List Stp} (h : (GetX n w).2 = false) : getX n w = none := by
 unfold GetX at h
 cases hg : getX n w with
 | none => rfl
 | some y => rw [hg] at h; cases h
theorem getX_some17 {n : Nd} {w : List Stp} (h : (GetX n w).2 = true) : getX n w = some (GetX n w).1 := by
 unfold GetX at h ⊢
 cases hg : getX n w with
 | none => rw [hg] at h; cases h
 | some y => rfl
theorem oneX_parts {n m : Nd} {x : EdD} (h : oneX n x = (m, 0)) :
  (x.kind = 1 ∧ getX n x.way = none ∧ SetX n x.way x.node = (m, 0)) ∨ (x.kind = 2 ∧ x.way.getLast? = some (stp x.old.1) ∧ getX n x.way = some x.old ∧ CutX n x.way = (m, 0)) ∨
  (x.kind = 3 ∧ x.way.getLast? = some (stp x.old.1) ∧ getX n x.way = some x.old ∧ x.node.1.kind ≠ 0 ∧ x.old.1.kind ≠ 0 ∧ SetX n x.way x.node = (m, 0)) := by
 unfold oneX at h
 by_cases c1 : (x.kind ≠ 1 ∧ x.kind ≠ 2 ∧ x.kind ≠ 3) ∨ x.way = [] ∨ (x.kind ≠ 2 ∧ x.way.getLast? ≠ some (stp x.node.1)) ∨ (x.kind ≠ 1 ∧ x.way.getLast? ≠ some (stp x.old.1))
 ·rw [if_pos c1] at h; injection h with _ e; exact absurd e (by decide)
 rw [if_neg c1] at h
 simp only [not_or, not_and, Classical.not_not] at c1
 obtain ⟨d1, d2, d3, d4⟩ := c1
 by_cases c2 : x.kind = 1 ∧ (GetX n x.way).2 = true
 ·rw [if_pos c2] at h; injection h with _ e; exact absurd e (by decide)
 rw [if_neg c2] at h
 by_cases c3 : x.kind ≠ 1 ∧ (GetX n x.way).2 = false
 ·rw [if_pos c3] at h; injection h with _ e; exact absurd e (by decide)
 rw [if_neg c3] at h
 by_cases c4 : (x.kind ≠ 1 ∧ (GetX n x.way).1 ≠ x.old) ∨ (x.kind = 3 ∧ (x.node.1.kind = 0 ∨ x.old.1.kind = 0))
 ·rw [if_pos c4] at h; injection h with _ e; exact absurd e (by decide)
 rw [if_neg c4] at h
 simp only [not_or, not_and, Classical.not_not] at c4
 by_cases k1 : x.kind = 1
 ·rw [if_neg (by omega)] at h
  refine .inl ⟨k1, getX_none17 ?_, h⟩
  cases hg : (GetX n x.way).2 with
  | false => rfl
  | true => exact absurd ⟨k1, hg⟩ c2
 ·have hg : (GetX n x.way).2 = true := by
   cases hg : (GetX n x.way).2 with
   | true => rfl
   | false => exact absurd ⟨k1, hg⟩ c3
  have hs := getX_some17 hg
  rw [c4.1 k1] at hs
  by_cases k2 : x.kind = 2
  ·rw [if_pos k2] at h
   exact .inr (.inl ⟨k2, d4 k1, hs, h⟩)
  ·rw [if_neg k2] at h
   have k3 : x.kind = 3 := d1 k1 k2
   exact .inr (.inr ⟨k3, d4 k1, hs, (c4.2 k3).1, (c4.2 k3).2, h⟩)
def smB (c : UInt8) : Bool := decide (97 ≤ c.toNat) && decide (c.toNat ≤ 122)
def nmB (c : UInt8) : Bool := smB c || (decide (48 ≤ c.toNat) && decide (c.toNat ≤ 57)) || c == 45
def identX (s : List UInt8) : Bool := match s with
 | [] => false
 | c :: r => smB c && r.all nmB && decide (r.length + 1 ≤ 12)
theorem ident_len {s : List UInt8} (h : identX s = true) : 0 < s.length ∧ s.length ≤ 12 := by
 cases s with
 | nil => cases h
 | cons c r => simp [identX] at h; simp; omega
structure SpD where
 name : List UInt8
 kind : Nat
 typ : Nat
 low : Nat
 high : Nat
 names : List (List UInt8)
 must : Bool
 most : Nat
theorem SpD.ext_ {a b : SpD} (h1 : a.name = b.name) (h2 : a.kind = b.kind) (h3 : a.typ = b.typ) (h4 : a.low = b.low) (h5 : a.high = b.high) (h6 : a.names = b.names) (h7 : a.must = b.must) (h8 : a.most = b.most) : a = b := by
 cases a; cases b; simp_all
instance : DecidableEq SpD := fun a b => decidable_of_iff (a.name = b.name ∧ a.kind = b.kind ∧ a.typ = b.typ ∧ a.low = b.low ∧ a.high = b.high ∧ a.names = b.names ∧ a.must = b.must ∧ a.most = b.most)
 ⟨fun ⟨h1, h2, h3, h4, h5, h6, h7, h8⟩ => SpD.ext_ h1 h2 h3 h4 h5 h6 h7 h8, fun h => by subst h; exact ⟨rfl, rfl, rfl, rfl, rfl, rfl, rfl, rfl⟩⟩
abbrev cS (n : ByteArray) (k t l h : Int) (N : Value) (m : Bool) (o : Int) (K : Value) : Array Value := #[.string n, .int .i64 k, .int .i64 t, .int .u64 l, .int .u64 h, N, .bool m, .int .i64 o, K]
abbrev cT (nm : List UInt8) (kd ty lo hi : Nat) (ns : List (List UInt8)) (mu : Bool) (mo : Nat) (B : Option Addr) (m : Nat) (A : Option Addr) (kn c : Nat) : Array Value := cS (txt nm) kd ty lo hi (.slice B ns.length m) mu mo (.slice A kn c)
def okS (s : Stp) : Bool := identX s.1 && (identX s.2 || s.2.isEmpty)
def stepT (s : Stp) : List UInt8 := 47 :: (s.1 ++ (if identX s.2 = true then 91 :: (s.2 ++ [93]) else []))
def catT : List Stp → List UInt8
 | [] => []
 | s :: l => stepT s ++ catT l
theorem catT_app (l m : List Stp) : catT (l ++ m) = catT l ++ catT m := by
 induction l with
 | nil => rfl
 | cons s l ih => simp only [List.cons_append, catT, ih, List.append_assoc]
theorem catT_nil {l : List Stp} (h : catT l = []) : l = [] := by
 cases l with
 | nil => rfl
 | cons s l => simp [catT, stepT] at h
def showX (l : List Stp) : List UInt8 := if l.all okS = true then (if l = [] then [47] else if 6 < l.length then [] else catT l) else []
theorem nm47 : nmB 47 = false := by decide
def nextX (r : List UInt8) : Prop := r = [] ∨ r.head? = some 47
theorem nextX.nm {r : List UInt8} (h : nextX r) : ∀ c, r.head? = some c → nmB c = false := by
 intro c hc
 rcases h with rfl | h
 ·cases hc
 ·rw [h] at hc; injection hc with hc; subst hc; exact nm47
theorem stepT_len {s : Stp} (h : okS s = true) : (stepT s).length ≤ 27 := by
 unfold okS at h
 simp only [Bool.and_eq_true] at h
 have h1 := ident_len h.1
 unfold stepT
 by_cases hk : identX s.2 = true
 ·have h2 := ident_len hk
  rw [if_pos hk]
  simp only [List.length_cons, List.length_append, List.length_nil]
  omega
 ·rw [if_neg hk]
  simp only [List.length_cons, List.length_append, List.length_nil]
  omega
theorem take_snoc15 {l : List Stp} {j : Nat} {s : Stp} (h : l[j]? = some s) : l.take (j + 1) = l.take j ++ [s] := by
 have hj : j < l.length := (List.getElem?_eq_some_iff.1 h).1
 rw [List.take_succ_eq_append_getElem hj]
 rw [List.getElem?_eq_getElem hj] at h
 injection h with h
 rw [h]
theorem catT_snoc (l : List Stp) (s : Stp) : catT (l ++ [s]) = catT l ++ stepT s := by rw [catT_app]; simp [catT]
def ShL (l : List Stp) (j : Nat) (t : List UInt8) : Prop := t = catT (l.take j) ∧ (l.take j).all okS = true ∧ t.length ≤ 27 * j
theorem ShL.zero (l : List Stp) : ShL l 0 [] := ⟨rfl, rfl, Nat.le_refl _⟩
theorem ShL.step {l : List Stp} {j : Nat} {t : List UInt8} {s : Stp} (h : ShL l j t) (hs : l[j]? = some s) (ho : okS s = true) : ShL l (j + 1) (t ++ stepT s) := by
 obtain ⟨h1, h2, h3⟩ := h
 have h4 := stepT_len ho
 refine ⟨by rw [take_snoc15 hs, catT_snoc, h1], by rw [take_snoc15 hs]; simp [h2, ho], by rw [List.length_append]; omega⟩
theorem ShL.end_ {l : List Stp} {t : List UInt8} (h : ShL l l.length t) : (l = [] ∧ t = [] ∧ showX l = [47]) ∨ (t ≠ [] ∧ 6 < l.length ∧ showX l = []) ∨ (t ≠ [] ∧ l.length ≤ 6 ∧ showX l = t) := by
 obtain ⟨h1, h2, h3⟩ := h
 rw [List.take_length] at h1 h2
 by_cases h0 : l = []
 ·subst h0; exact .inl ⟨rfl, h1, rfl⟩
 have ht : t ≠ [] := fun e => h0 (catT_nil (by rw [← h1, e]))
 by_cases h6 : 6 < l.length
 ·exact .inr (.inl ⟨ht, h6, by unfold showX; rw [if_pos h2, if_neg h0, if_pos h6]⟩)
 ·exact .inr (.inr ⟨ht, by omega, by unfold showX; rw [if_pos h2, if_neg h0, if_neg h6, h1]⟩)
end Go.Proofs.Ythmobcaidhgeaaa
