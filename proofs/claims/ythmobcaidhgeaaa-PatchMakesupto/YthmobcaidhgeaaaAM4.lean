/- DifMem SclNum SpcNum PthNum PthRefA TreRefA TreRefB -/
import Derived.Test.YthmobcaidhgeaaaAM3
import Derived.Lib.AppendZeros
set_option linter.unusedSimpArgs false
set_option linter.unusedVariables false
set_option maxRecDepth 100000
set_option maxHeartbeats 8000000
namespace Go.Proofs.Ythmobcaidhgeaaa
open Go.RowKit
theorem Try.cellsEd : (Try.prog.info? 37).map (fun i => (i.zero, i.size, i.bytes)) = some (some (.agg #[.int .i64 0, .slice none 0 0, .string ⟨#[]⟩, .string ⟨#[]⟩, .int .i64 0, .int .u64 0, .string ⟨#[]⟩, .slice none 0 0, .string ⟨#[]⟩, .string ⟨#[]⟩, .int .i64 0, .int .u64 0, .string ⟨#[]⟩, .slice none 0 0]), 14, 208) := by kernel_rfl
theorem ezeroN : (Value.agg #[.int .i64 0, .slice none 0 0, .string ⟨#[]⟩, .string ⟨#[]⟩, .int .i64 0, .int .u64 0, .string ⟨#[]⟩, .slice none 0 0, .string ⟨#[]⟩, .string ⟨#[]⟩, .int .i64 0, .int .u64 0, .string ⟨#[]⟩, .slice none 0 0]).cells.size = 14 := rfl
def WayS (S : Nat → Prop) (w : World) (v : Value) (l : List Stp) : Prop := ∃ A c, v = .slice A l.length c ∧ l.length ≤ c ∧ (0 < l.length → ∃ g o, A = some ⟨g, o, none⟩ ∧ S g ∧
 ∀ j s, l[j]? = some s → w.cell? ⟨g, o + j * 2, none⟩ = some (.string (txt s.1)) ∧ w.cell? ⟨g, o + j * 2 + 1, none⟩ = some (.string (txt s.2)))
theorem WayS.keep {S S' : Nat → Prop} {w w' : World} {v : Value} {l : List Stp} (h : WayS S w v l) (hk : ∀ g, S g → w'.heap[g]? = w.heap[g]?) (hS : ∀ g, S g → S' g) : WayS S' w' v l := by
 obtain ⟨A, c, rfl, h1, h2⟩ := h
 refine ⟨A, c, rfl, h1, fun h0 => ?_⟩
 obtain ⟨g, o, rfl, h3, h4⟩ := h2 h0
 exact ⟨g, o, rfl, hS g h3, fun j s hs => ⟨(World.cell?_of_block (w := w) (a := ⟨g, o + j * 2, none⟩) (hk g h3)).trans (h4 j s hs).1, (World.cell?_of_block (w := w) (a := ⟨g, o + j * 2 + 1, none⟩) (hk g h3)).trans (h4 j s hs).2⟩⟩
theorem WayS.v {b : Nat} {w : World} {v : Value} {l : List Stp} (h : WayS (fun g => g < b) w v l) : WayV b w v l := h
theorem WayV.s {b : Nat} {w : World} {v : Value} {l : List Stp} (h : WayV b w v l) : WayS (fun g => g < b) w v l := h
theorem WayS.shape {S : Nat → Prop} {w : World} {v : Value} {l : List Stp} (h : WayS S w v l) : ∃ A c, v = .slice A l.length c := by
 obtain ⟨A, c, e, _⟩ := h; exact ⟨A, c, e⟩
theorem WayS.nil (S : Nat → Prop) (w : World) : WayS S w (.slice none 0 0) [] := ⟨none, 0, rfl, Nat.le_refl _, fun h => absurd h (by simp)⟩
abbrev RowS (S : Nat → Prop) (w : World) (v : Value) (f : NdF) : Prop := FrV NdT 6 5 w S noB v f
theorem RowS.keep {S S' : Nat → Prop} {w w' : World} {v : Value} {f : NdF} (h : RowS S w v f) (hk : ∀ g, S g → w'.heap[g]? = w.heap[g]?) (hS : ∀ g, S g → S' g) : RowS S' w' v f :=
 FrV.kept stay_nd h hk hS (fun _ h => h.elim) (fun _ h => h)
abbrev edC (k : Int) (wv : Value) (n : NdD) (nv : Value) (o : NdD) (ov : Value) : List Value := [.int .i64 k, wv, .string (txt n.name), .string (txt n.key), .int .i64 n.kind, .int .u64 (n.num : Int), .string (txt n.text), nv, .string (txt o.name), .string (txt o.key), .int .i64 o.kind, .int .u64 (o.num : Int), .string (txt o.text), ov]
def EdS (S : Nat → Prop) (w : World) (cs : List Value) (e : EdD) : Prop := ∃ wv nv ov, cs = edC e.kind wv e.node.1 nv e.old.1 ov ∧ WayS S w wv e.way ∧ RowS S w nv e.node.2 ∧ RowS S w ov e.old.2
theorem EdS.keep {S S' : Nat → Prop} {w w' : World} {cs : List Value} {e : EdD} (h : EdS S w cs e) (hk : ∀ g, S g → w'.heap[g]? = w.heap[g]?) (hS : ∀ g, S g → S' g) : EdS S' w' cs e := by
 obtain ⟨wv, nv, ov, rfl, h1, h2, h3⟩ := h
 exact ⟨wv, nv, ov, rfl, h1.keep hk hS, RowS.keep h2 hk hS, RowS.keep h3 hk hS⟩
theorem EdS.len {S : Nat → Prop} {w : World} {cs : List Value} {e : EdD} (h : EdS S w cs e) : cs.length = 14 := by
 obtain ⟨_, _, _, rfl, _⟩ := h; rfl
theorem EdS.one {S : Nat → Prop} {w : World} {cs : List Value} {e : EdD} (h : EdS S w cs e) : ∀ u ∈ cs, u.oneCell' = true := by
 obtain ⟨wv, nv, ov, rfl, h1, h2, h3⟩ := h
 obtain ⟨_, _, rfl⟩ := h1.shape
 obtain ⟨_, _, rfl⟩ := h2.shape
 obtain ⟨_, _, rfl⟩ := h3.shape
 intro u hu
 simp only [List.mem_cons, List.not_mem_nil, or_false] at hu
 rcases hu with rfl | rfl | rfl | rfl | rfl | rfl | rfl | rfl | rfl | rfl | rfl | rfl | rfl | rfl <;> rfl
theorem EdS.shape {S : Nat → Prop} {w : World} {cs : List Value} {e : EdD} (h : EdS S w cs e) : ∃ Aw cw An cn Ao co, cs = edC e.kind (.slice Aw e.way.length cw) e.node.1 (.slice An e.node.2.len cn) e.old.1 (.slice Ao e.old.2.len co) ∧ WayS S w (.slice Aw e.way.length cw) e.way ∧ RowS S w (.slice An e.node.2.len cn) e.node.2 ∧ RowS S w (.slice Ao e.old.2.len co) e.old.2 := by
 obtain ⟨wv, nv, ov, rfl, h1, h2, h3⟩ := h
 obtain ⟨Aw, cw, rfl⟩ := h1.shape
 obtain ⟨An, cn, rfl⟩ := h2.shape
 obtain ⟨Ao, co, rfl⟩ := h3.shape
 exact ⟨_, _, _, _, _, _, rfl, h1, h2, h3⟩
def rowE (S : Nat → Prop) (w : World) : List Value → List EdD → Prop
 | xs, [] => xs = []
 | xs, e :: l => ∃ cs ys, xs = cs ++ ys ∧ EdS S w cs e ∧ rowE S w ys l
theorem rowE.keep {S S' : Nat → Prop} {w w' : World} : ∀ {l : List EdD} {xs : List Value}, rowE S w xs l → (∀ g, S g → w'.heap[g]? = w.heap[g]?) → (∀ g, S g → S' g) → rowE S' w' xs l := by
 intro l
 induction l with
 | nil => intro xs h _ _; exact h
 | cons e l ih => intro xs ⟨cs, ys, h1, h2, h3⟩ hk hS; exact ⟨cs, ys, h1, h2.keep hk hS, ih h3 hk hS⟩
theorem rowE.len {S : Nat → Prop} {w : World} : ∀ {l : List EdD} {xs : List Value}, rowE S w xs l → xs.length = l.length * 14 := by
 intro l
 induction l with
 | nil => intro xs h; rw [show xs = [] from h]; rfl
 | cons e l ih => intro xs ⟨cs, ys, h1, h2, h3⟩; rw [h1, List.length_append, h2.len, ih h3, List.length_cons]; omega
theorem rowE.one {S : Nat → Prop} {w : World} : ∀ {l : List EdD} {xs : List Value}, rowE S w xs l → ∀ u ∈ xs, u.oneCell' = true := by
 intro l
 induction l with
 | nil => intro xs h u hu; rw [show xs = [] from h] at hu; cases hu
 | cons e l ih =>
  intro xs ⟨cs, ys, h1, h2, h3⟩ u hu
  rw [h1] at hu
  rcases List.mem_append.1 hu with hu | hu
  ·exact h2.one u hu
  ·exact ih h3 u hu
theorem rowE.app {S : Nat → Prop} {w : World} {m : List EdD} {ys : List Value} (h2 : rowE S w ys m) : ∀ {l : List EdD} {xs : List Value}, rowE S w xs l → rowE S w (xs ++ ys) (l ++ m) := by
 intro l
 induction l with
 | nil => intro xs h; rw [show xs = [] from h]; exact h2
 | cons e l ih => intro xs ⟨cs, zs, h1, h3, h4⟩; exact ⟨cs, zs ++ ys, by rw [h1, List.append_assoc], h3, ih h4⟩
theorem rowE.one_ {S : Nat → Prop} {w : World} {cs : List Value} {e : EdD} (h : EdS S w cs e) : rowE S w cs [e] := ⟨cs, [], by simp, h, rfl⟩
theorem rowE.at {S : Nat → Prop} {w : World} : ∀ {l : List EdD} {xs : List Value} {j : Nat} {e : EdD}, rowE S w xs l → l[j]? = some e → ∃ cs, EdS S w cs e ∧ ∀ i u, cs[i]? = some u → xs[j * 14 + i]? = some u := by
 intro l
 induction l with
 | nil => intro xs j e _ h; simp at h
 | cons d l ih =>
  intro xs j e ⟨cs, ys, h1, h2, h3⟩ h
  subst h1
  cases j with
  | zero =>
   simp at h
   subst h
   refine ⟨cs, h2, fun i u hu => ?_⟩
   rw [Nat.zero_mul, Nat.zero_add, List.getElem?_append_left (List.getElem?_eq_some_iff.1 hu).1]
   exact hu
  | succ j =>
   obtain ⟨zs, g1, g2⟩ := ih h3 (by simpa using h)
   refine ⟨zs, g1, fun i u hu => ?_⟩
   rw [List.getElem?_append_right (by rw [h2.len]; omega), h2.len, show (j + 1) * 14 + i - 14 = j * 14 + i by omega]
   exact g2 i u hu
def EdsV (S : Nat → Prop) (w : World) (v : Value) (l : List EdD) : Prop := ∃ A c, v = .slice A l.length c ∧ l.length ≤ c ∧ (0 < l.length → ∃ g o xs, A = some ⟨g, o, none⟩ ∧ S g ∧ rowE S w xs l ∧ ∀ j u, xs[j]? = some u → w.cell? ⟨g, o + j, none⟩ = some u)
theorem EdsV.keep {S S' : Nat → Prop} {w w' : World} {v : Value} {l : List EdD} (h : EdsV S w v l) (hk : ∀ g, S g → w'.heap[g]? = w.heap[g]?) (hS : ∀ g, S g → S' g) : EdsV S' w' v l := by
 obtain ⟨A, c, rfl, h1, h2⟩ := h
 refine ⟨A, c, rfl, h1, fun h0 => ?_⟩
 obtain ⟨g, o, xs, rfl, h3, h4, h5⟩ := h2 h0
 exact ⟨g, o, xs, rfl, hS g h3, h4.keep hk hS, fun j u hu => (World.cell?_of_block (w := w) (a := ⟨g, o + j, none⟩) (hk g h3)).trans (h5 j u hu)⟩
theorem EdsV.shape {S : Nat → Prop} {w : World} {v : Value} {l : List EdD} (h : EdsV S w v l) : ∃ A c, v = .slice A l.length c := by
 obtain ⟨A, c, e, _⟩ := h; exact ⟨A, c, e⟩
theorem EdsV.nil (S : Nat → Prop) (w : World) : EdsV S w (.slice none 0 0) [] := ⟨none, 0, rfl, Nat.le_refl _, fun h => absurd h (by simp)⟩
theorem EdsV.at {S : Nat → Prop} {w : World} {A : Option Addr} {n c : Nat} {l : List EdD} (h : EdsV S w (.slice A n c) l) {j : Nat} {e : EdD} (hj : l[j]? = some e) :
  ∃ g o Aw cw An cn Ao co, A = some ⟨g, o, none⟩ ∧ n = l.length ∧ n ≤ c ∧ S g ∧ WayS S w (.slice Aw e.way.length cw) e.way ∧ RowS S w (.slice An e.node.2.len cn) e.node.2 ∧ RowS S w (.slice Ao e.old.2.len co) e.old.2 ∧
   ∀ i u, (edC e.kind (.slice Aw e.way.length cw) e.node.1 (.slice An e.node.2.len cn) e.old.1 (.slice Ao e.old.2.len co))[i]? = some u → w.cell? ⟨g, o + j * 14 + i, none⟩ = some u := by
 obtain ⟨A', c', e', h1, h2⟩ := h
 injection e' with e1 e2 e3
 subst e1 e2 e3
 have hlt := (List.getElem?_eq_some_iff.1 hj).1
 obtain ⟨g, o, xs, rfl, h3, h4, h5⟩ := h2 (by omega)
 obtain ⟨cs, k1, k2⟩ := h4.at hj
 obtain ⟨Aw, cw, An, cn, Ao, co, rfl, k3, k4, k5⟩ := k1.shape
 refine ⟨g, o, Aw, cw, An, cn, Ao, co, rfl, rfl, h1, h3, k3, k4, k5, fun i u hu => ?_⟩
 rw [Nat.add_assoc]
 exact h5 _ _ (k2 i u hu)
def OwnE (base : Nat) (S : Nat → Prop) (w : World) (v : Value) (l : List EdD) : Prop := (∀ g, S g → g < w.heap.size ∧ some g ≠ v.ownBlock) ∧ ∃ xs, OwnK 37 14 w base v l.length xs ∧ rowE S w xs l
section
variable {base : Nat} {S S' : Nat → Prop} {w w' : World} {v v' : Value} {l m : List EdD}
theorem OwnE.nil (w : World) (base : Nat) (hS : ∀ g, S g → g < w.heap.size) : OwnE base S w (.slice none 0 0) [] := ⟨fun g h => ⟨hS g h, by intro h; cases h⟩, [], OwnK.nil _ _ _ _, rfl⟩
theorem OwnE.below (h : OwnE base S w v l) (hb : Below w.heap.size w w') : OwnE base S w' v l := by
 obtain ⟨hS, xs, h1, h2⟩ := h
 exact ⟨fun g hg => ⟨Nat.lt_of_lt_of_le (hS g hg).1 hb.size, (hS g hg).2⟩, xs, h1.below hb, h2.keep (fun g hg => hb.block g (hS g hg).1) (fun _ h => h)⟩
theorem OwnE.widen (h : OwnE base S w v l) (hS : ∀ g, S g → S' g) (hS2 : ∀ g, S' g → g < w.heap.size ∧ some g ≠ v.ownBlock) : OwnE base S' w v l := by
 obtain ⟨_, xs, h1, h2⟩ := h
 exact ⟨hS2, xs, h1, h2.keep (fun _ _ => rfl) hS⟩
theorem OwnE.lt (h : OwnE base S w v l) : ∀ k, v.ownBlock = some k → base ≤ k ∧ k < w.heap.size := by
 obtain ⟨_, xs, h1, _⟩ := h
 exact h1.lt
theorem OwnE.shape (h : OwnE base S w v l) : ∃ A c, v = .slice A l.length c := by
 obtain ⟨_, xs, h1, _⟩ := h
 exact h1.shape
theorem OwnE.eds (h : OwnE base S w v l) : EdsV (fun g => S g ∨ v.ownBlock = some g) w v l := by
 obtain ⟨hS, xs, h1, h2⟩ := h
 have h2' : rowE (fun g => S g ∨ v.ownBlock = some g) w xs l := h2.keep (fun _ _ => rfl) (fun g hg => .inl hg)
 have hh := h1
 rcases h1.2 with ⟨rfl, h0⟩ | ⟨g, cap, cur, rfl, hb, hg, hnc, hcm, hcs, ht⟩
 ·exact ⟨none, 0, by rw [h0], by omega, fun h => absurd h (by omega)⟩
 ·refine ⟨_, cap, rfl, hnc, fun h0 => ⟨g, 0, xs, rfl, .inr rfl, h2', fun j u hj => ?_⟩⟩
  have hjl : j < xs.length := (List.getElem?_eq_some_iff.1 hj).1
  have hxl : xs.length = l.length * 14 := h1.1
  rw [World.ownsRow.cellAt hh (0 + j) (by omega), Nat.zero_add, hj]
theorem OwnE.app {xs ys : List Value} (hown : OwnE base S w v l) (hxr : rowE S w xs l) (h1 : OwnK 37 14 w' base v' (l ++ m).length (xs ++ ys)) (h2 : w.grownBy w' v.ownBlock) (h3 : v'.ownBlock = v.ownBlock ∨ v'.ownBlock = some w.heap.size) (hy : rowE S w ys m) : OwnE base S w' v' (l ++ m) := by
 obtain ⟨hS, _⟩ := hown
 have sep : ∀ k, k < w.heap.size → some k ≠ v.ownBlock → some k ≠ v'.ownBlock := by
  intro k hk hne
  rcases h3 with h | h
  ·rw [h]; exact hne
  ·rw [h]; intro h'; injection h' with h'; omega
 exact ⟨fun k hk => ⟨Nat.lt_of_lt_of_le (hS k hk).1 h2.size, sep k (hS k hk).1 (hS k hk).2⟩, xs ++ ys, h1, (rowE.app hy hxr).keep (fun k hk => h2.block k (hS k hk).1 (hS k hk).2) (fun _ h => h)⟩
end
def AppE (base : Nat) (S : Nat → Prop) (w : World) (v : Value) (l : List EdD) (v' : Value) (w' : World) : Prop := OwnE base S w' v' l ∧ w.grownBy w' v.ownBlock ∧ ∃ A c, v' = .slice A l.length c
theorem AppE.below {base : Nat} {S : Nat → Prop} {w w' : World} {v v' : Value} {l m : List EdD} (h : AppE base S w v m v' w') (hown : OwnE base S w v l) (hb : base ≤ w.heap.size) : Below base w w' :=
 ⟨h.2.1.os, h.2.1.tape, h.2.1.output, h.2.1.size, fun i hi => h.2.1.block i (Nat.lt_of_lt_of_le hi hb) (fun e => by have := (hown.lt i e.symm).1; omega)⟩
theorem wp_append_e {w : World} {o : Oper} {a : Act} {K : Act → World → Prop} {Q : Exit → Act → World → Prop} (s x : Operand) (ho : o.op = .call { callee := .builtin .append, args := #[s, x], argTypes := #[28, 28] }) (hty : o.type = 28)
  {base : Nat} {S : Nat → Prop} {v : Value} {l : List EdD} (hs : a.eval s = v) (hown : OwnE base S w v l) {g : Nat} (hx : a.eval x = .slice (some ⟨g, 0, none⟩) 1 1) {ys : List Value} {e : EdD} (hblk : Blk w g 37 ys.toArray) (hy : EdS S w ys e)
  (hlen : l.length ≤ 100000000) (hbase : base ≤ w.heap.size) (hK : ∀ v' w', AppE base S w v (l ++ [e]) v' w' → K (a.put o.dst v') w') : o.wp Try.prog a w K Q := by
 have hown' := hown
 obtain ⟨hS, xs, h1, h2⟩ := hown'
 refine wp_append_k (P := Try.prog) Try.underlying28 Try.cellsEd ezeroN (by omega) s x ho hty base v l.length xs hs h1 g hx ys hblk hy.len hy.one (by omega) (by omega) hbase fun v' w' hap => ?_
 have hw : OwnE base S w' v' (l ++ [e]) := hown.app h2 (by rw [List.length_append]; exact hap.1) hap.2.1 hap.2.2.1 (rowE.one_ hy)
 exact hK v' w' ⟨hw, hap.2.1, hw.shape⟩
theorem run_none_own {P : Program} {w : World} (base : Nat) (t ty e : TypeId) (i : TypeInfo) (size : Nat) (ht : P.underlying t = some (.slice e)) (hi : P.info? e = some i)
  (v : Value) (n : Nat) (xs : List Value) (hown : w.ownsRow base e size v n xs) (c : Nat) : (Builtin.append_ #[t, t] ty #[v, .slice none 0 c]).run P w = .ok v w := by
 rcases hown.2 with ⟨rfl, rfl⟩ | ⟨g, cap, cur, rfl, _, _, hnc, _⟩
 ·simp [Builtin.append_, run_underlying ht, sizeOf, typeInfo, hi, Builtin.lenOf, Builtin.firstCells]
 ·simp [Builtin.append_, run_underlying ht, sizeOf, typeInfo, hi, Builtin.lenOf, Builtin.firstCells, hnc, storeCells]
theorem run_append_es {w : World} {base : Nat} {S : Nat → Prop} {v x : Value} {l m : List EdD} (hown : OwnE base S w v l) (hx : EdsV S w x m) (hlen : l.length + m.length ≤ 100000000) (hbase : base ≤ w.heap.size) :
  ∃ v' w', (Builtin.append_ #[28, 28] 28 #[v, x]).run Try.prog w = .ok v' w' ∧ AppE base S w v (l ++ m) v' w' := by
 have hown' := hown
 obtain ⟨hS, xs, h1, h2⟩ := hown'
 obtain ⟨A, c, rfl, g1, g2⟩ := hx
 obtain ⟨i, hi, hz0, hz1, hz2⟩ := info_parts Try.cellsEd
 by_cases h0 : 0 < m.length
 ·obtain ⟨g, o, ys, rfl, h3, h4, h5⟩ := g2 h0
  obtain ⟨v', w', hr, k1, k2, -, k3⟩ := run_append_own_at (P := Try.prog) (w := w) base 28 28 37 i _ 14 208 Try.underlying28 hi hz0 hz1 hz2 ezeroN (by omega) v l.length xs h1 ⟨g, o, none⟩ m.length c ys h4.len
   (fun j u hj => by
    have e1 : (⟨g, o, none⟩ : Addr).add j = ⟨g, o + j, none⟩ := by unfold Addr.add; split <;> simp_all
    rw [e1]; exact h5 j u hj) h4.one (by unfold maxLen; omega) (by omega) hbase
  have hw : OwnE base S w' v' (l ++ m) := hown.app h2 (by rw [List.length_append]; exact k1) k2 k3 h4
  exact ⟨v', w', hr, hw, k2, hw.shape⟩
 ·have e : m = [] := List.eq_nil_of_length_eq_zero (by omega)
  subst e
  rw [List.append_nil]
  have hr : (Builtin.append_ #[28, 28] 28 #[v, .slice A 0 c]).run Try.prog w = .ok v w ∨ ∃ v' w', (Builtin.append_ #[28, 28] 28 #[v, .slice A 0 c]).run Try.prog w = .ok v' w' ∧ AppE base S w v l v' w' := by
   cases A with
   | none => exact .inl (run_none_own base 28 28 37 i 14 Try.underlying28 hi v l.length xs h1 c)
   | some ad =>
    obtain ⟨v', w', hr, k1, k2, -, k3⟩ := run_append_own_at (P := Try.prog) (w := w) base 28 28 37 i _ 14 208 Try.underlying28 hi hz0 hz1 hz2 ezeroN (by omega) v l.length xs h1 ad 0 c [] rfl (fun j u hj => by simp at hj) (by simp) (by unfold maxLen; omega) (by omega) hbase
    have hw : OwnE base S w' v' (l ++ []) := hown.app h2 (by rw [List.append_nil]; rw [List.append_nil] at k1 ⊢; exact k1) k2 k3 (show rowE S w [] [] from rfl)
    rw [List.append_nil] at hw
    exact .inr ⟨v', w', hr, hw, k2, hw.shape⟩
  rcases hr with hr | hr
  ·exact ⟨v, w, hr, hown, ⟨rfl, rfl, rfl, Nat.le_refl _, fun _ _ _ => rfl⟩, hown.shape⟩
  ·exact hr
theorem wpList_append_e {w : World} {ops : Array Oper} {rest : List Oper} {o : Oper} {a : Act} {Q : Exit → Act → World → Prop} (hgd : o.guard = none) (s x : Operand) (ho : o.op = .call { callee := .builtin .append, args := #[s, x], argTypes := #[28, 28] }) (hty : o.type = 28)
  {base : Nat} {S : Nat → Prop} {v : Value} {l : List EdD} (hs : a.eval s = v) (hown : OwnE base S w v l) {g : Nat} (hx : a.eval x = .slice (some ⟨g, 0, none⟩) 1 1) {ys : List Value} {e : EdD} (hblk : Blk w g 37 ys.toArray) (hy : EdS S w ys e)
  (hlen : l.length ≤ 100000000) (hbase : base ≤ w.heap.size) (hK : ∀ v' w', AppE base S w v (l ++ [e]) v' w' → wpList Try.prog ops Q rest (a.put o.dst v') w') : wpList Try.prog ops Q (o :: rest) a w :=
 wpList_plain hgd fun _ hK' => wp_append_e s x ho hty hs hown hx hblk hy hlen hbase fun v' w' hp => hK' _ _ (hK v' w' hp)
def smB (c : UInt8) : Bool := decide (97 ≤ c.toNat) && decide (c.toNat ≤ 122)
def nmB (c : UInt8) : Bool := smB c || (decide (48 ≤ c.toNat) && decide (c.toNat ≤ 57)) || c == 45
def identX (s : List UInt8) : Bool := match s with
 | [] => false
 | c :: r => smB c && r.all nmB && decide (r.length + 1 ≤ 12)
theorem ident_len {s : List UInt8} (h : identX s = true) : 0 < s.length ∧ s.length ≤ 12 := by
 cases s with
 | nil => cases h
 | cons c r => simp [identX] at h; simp; omega
structure SpD where
 name : List UInt8
 kind : Nat
 typ : Nat
 low : Nat
 high : Nat
 names : List (List UInt8)
 must : Bool
 most : Nat
theorem SpD.ext_ {a b : SpD} (h1 : a.name = b.name) (h2 : a.kind = b.kind) (h3 : a.typ = b.typ) (h4 : a.low = b.low) (h5 : a.high = b.high) (h6 : a.names = b.names) (h7 : a.must = b.must) (h8 : a.most = b.most) : a = b := by
 cases a; cases b; simp_all
instance : DecidableEq SpD := fun a b => decidable_of_iff (a.name = b.name ∧ a.kind = b.kind ∧ a.typ = b.typ ∧ a.low = b.low ∧ a.high = b.high ∧ a.names = b.names ∧ a.must = b.must ∧ a.most = b.most)
 ⟨fun ⟨h1, h2, h3, h4, h5, h6, h7, h8⟩ => SpD.ext_ h1 h2 h3 h4 h5 h6 h7 h8, fun h => by subst h; exact ⟨rfl, rfl, rfl, rfl, rfl, rfl, rfl, rfl⟩⟩
abbrev cS (n : ByteArray) (k t l h : Int) (N : Value) (m : Bool) (o : Int) (K : Value) : Array Value := #[.string n, .int .i64 k, .int .i64 t, .int .u64 l, .int .u64 h, N, .bool m, .int .i64 o, K]
abbrev cT (nm : List UInt8) (kd ty lo hi : Nat) (ns : List (List UInt8)) (mu : Bool) (mo : Nat) (B : Option Addr) (m : Nat) (A : Option Addr) (kn c : Nat) : Array Value := cS (txt nm) kd ty lo hi (.slice B ns.length m) mu mo (.slice A kn c)
def okS (s : Stp) : Bool := identX s.1 && (identX s.2 || s.2.isEmpty)
def stepT (s : Stp) : List UInt8 := 47 :: (s.1 ++ (if identX s.2 = true then 91 :: (s.2 ++ [93]) else []))
def catT : List Stp → List UInt8
 | [] => []
 | s :: l => stepT s ++ catT l
theorem catT_app (l m : List Stp) : catT (l ++ m) = catT l ++ catT m := by
 induction l with
 | nil => rfl
 | cons s l ih => simp only [List.cons_append, catT, ih, List.append_assoc]
theorem catT_nil {l : List Stp} (h : catT l = []) : l = [] := by
 cases l with
 | nil => rfl
 | cons s l => simp [catT, stepT] at h
def showX (l : List Stp) : List UInt8 := if l.all okS = true then (if l = [] then [47] else if 6 < l.length then [] else catT l) else []
theorem nm47 : nmB 47 = false := by decide
def nextX (r : List UInt8) : Prop := r = [] ∨ r.head? = some 47
theorem nextX.nm {r : List UInt8} (h : nextX r) : ∀ c, r.head? = some c → nmB c = false := by
 intro c hc
 rcases h with rfl | h
 ·cases hc
 ·rw [h] at hc; injection hc with hc; subst hc; exact nm47
theorem stepT_len {s : Stp} (h : okS s = true) : (stepT s).length ≤ 27 := by
 unfold okS at h
 simp only [Bool.and_eq_true] at h
 have h1 := ident_len h.1
 unfold stepT
 by_cases hk : identX s.2 = true
 ·have h2 := ident_len hk
  rw [if_pos hk]
  simp only [List.length_cons, List.length_append, List.length_nil]
  omega
 ·rw [if_neg hk]
  simp only [List.length_cons, List.length_append, List.length_nil]
  omega
theorem take_snoc15 {l : List Stp} {j : Nat} {s : Stp} (h : l[j]? = some s) : l.take (j + 1) = l.take j ++ [s] := by
 have hj : j < l.length := (List.getElem?_eq_some_iff.1 h).1
 rw [List.take_succ_eq_append_getElem hj]
 rw [List.getElem?_eq_getElem hj] at h
 injection h with h
 rw [h]
theorem catT_snoc (l : List Stp) (s : Stp) : catT (l ++ [s]) = catT l ++ stepT s := by rw [catT_app]; simp [catT]
def ShL (l : List Stp) (j : Nat) (t : List UInt8) : Prop := t = catT (l.take j) ∧ (l.take j).all okS = true ∧ t.length ≤ 27 * j
theorem ShL.zero (l : List Stp) : ShL l 0 [] := ⟨rfl, rfl, Nat.le_refl _⟩
theorem ShL.step {l : List Stp} {j : Nat} {t : List UInt8} {s : Stp} (h : ShL l j t) (hs : l[j]? = some s) (ho : okS s = true) : ShL l (j + 1) (t ++ stepT s) := by
 obtain ⟨h1, h2, h3⟩ := h
 have h4 := stepT_len ho
 refine ⟨by rw [take_snoc15 hs, catT_snoc, h1], by rw [take_snoc15 hs]; simp [h2, ho], by rw [List.length_append]; omega⟩
theorem ShL.end_ {l : List Stp} {t : List UInt8} (h : ShL l l.length t) : (l = [] ∧ t = [] ∧ showX l = [47]) ∨ (t ≠ [] ∧ 6 < l.length ∧ showX l = []) ∨ (t ≠ [] ∧ l.length ≤ 6 ∧ showX l = t) := by
 obtain ⟨h1, h2, h3⟩ := h
 rw [List.take_length] at h1 h2
 by_cases h0 : l = []
 ·subst h0; exact .inl ⟨rfl, h1, rfl⟩
 have ht : t ≠ [] := fun e => h0 (catT_nil (by rw [← h1, e]))
 by_cases h6 : 6 < l.length
 ·exact .inr (.inl ⟨ht, h6, by unfold showX; rw [if_pos h2, if_neg h0, if_pos h6]⟩)
 ·exact .inr (.inr ⟨ht, by omega, by unfold showX; rw [if_pos h2, if_neg h0, if_neg h6, h1]⟩)
theorem Ans9.bool {b c : Bool} {w : World} {r : Ending} {w' : World} (h : Ans9 (.bool b) w r w') (e : b = c) : Ans9 (.bool c) w r w' := by subst e; exact h
theorem rless_name (a b : NdD) (A B : Option Addr) (m n c d : Nat) (w : World) (h1 : Go.Op.bytesLess a.name b.name = true) :
  Calls Try.prog 27 #[.agg (cN a (.slice A m c)), .agg (cN b (.slice B n d))] w (Ans9 (.bool true) w) := by
 have hB : Below w.heap.size w ((w.alloc (.cells (cN a (.slice A m c)) 27)).alloc (.cells (cN b (.slice B n d)) 27)) := bAl.alloc (by simp) _
 have HB := hHd hB
 have t1 : (txt a.name).toList = a.name := txt_toList _
 have t2 : (txt b.name).toList = b.name := txt_toList _
 have t3 : (txt a.key).toList = a.key := txt_toList _
 have t4 : (txt b.key).toList = b.key := txt_toList _
 clear hB
 go_enter Try.func27, Try.ntmps27
 go_wp2
 go_ret
 exact ⟨rfl, HB.out⟩
theorem rless_key (a b : NdD) (A B : Option Addr) (m n c d : Nat) (w : World) (h1 : Go.Op.bytesLess a.name b.name = false) (h2 : (a.name == b.name) = true) (h3 : Go.Op.bytesLess a.key b.key = true) :
  Calls Try.prog 27 #[.agg (cN a (.slice A m c)), .agg (cN b (.slice B n d))] w (Ans9 (.bool true) w) := by
 have hB : Below w.heap.size w ((w.alloc (.cells (cN a (.slice A m c)) 27)).alloc (.cells (cN b (.slice B n d)) 27)) := bAl.alloc (by simp) _
 have HB := hHd hB
 have t1 : (txt a.name).toList = a.name := txt_toList _
 have t2 : (txt b.name).toList = b.name := txt_toList _
 have t3 : (txt a.key).toList = a.key := txt_toList _
 have t4 : (txt b.key).toList = b.key := txt_toList _
 clear hB
 go_enter Try.func27, Try.ntmps27
 go_wp2
 go_ret
 exact ⟨rfl, HB.out⟩
theorem rless_not (a b : NdD) (A B : Option Addr) (m n c d : Nat) (w : World) (h1 : Go.Op.bytesLess a.name b.name = false) (h2 : (a.name == b.name) = true) (h3 : Go.Op.bytesLess a.key b.key = false) :
  Calls Try.prog 27 #[.agg (cN a (.slice A m c)), .agg (cN b (.slice B n d))] w (Ans9 (.bool false) w) := by
 have hB : Below w.heap.size w ((w.alloc (.cells (cN a (.slice A m c)) 27)).alloc (.cells (cN b (.slice B n d)) 27)) := bAl.alloc (by simp) _
 have HB := hHd hB
 have t1 : (txt a.name).toList = a.name := txt_toList _
 have t2 : (txt b.name).toList = b.name := txt_toList _
 have t3 : (txt a.key).toList = a.key := txt_toList _
 have t4 : (txt b.key).toList = b.key := txt_toList _
 clear hB
 go_enter Try.func27, Try.ntmps27
 go_wp2
 go_ret
 exact ⟨rfl, HB.out⟩
theorem rless_no (a b : NdD) (A B : Option Addr) (m n c d : Nat) (w : World) (h1 : Go.Op.bytesLess a.name b.name = false) (h2 : (a.name == b.name) = false) :
  Calls Try.prog 27 #[.agg (cN a (.slice A m c)), .agg (cN b (.slice B n d))] w (Ans9 (.bool false) w) := by
 have hB : Below w.heap.size w ((w.alloc (.cells (cN a (.slice A m c)) 27)).alloc (.cells (cN b (.slice B n d)) 27)) := bAl.alloc (by simp) _
 have HB := hHd hB
 have t1 : (txt a.name).toList = a.name := txt_toList _
 have t2 : (txt b.name).toList = b.name := txt_toList _
 have t3 : (txt a.key).toList = a.key := txt_toList _
 have t4 : (txt b.key).toList = b.key := txt_toList _
 clear hB
 go_enter Try.func27, Try.ntmps27
 go_wp2
 go_ret
 exact ⟨rfl, HB.out⟩
theorem rless_any (x y : Nd) (cs ds : List Value) (w : World) (hx : LieN w cs x) (hy : LieN w ds y) :
  Calls Try.prog 27 #[.agg cs.toArray, .agg ds.toArray] w (Ans9 (.bool (lessX x.1 y.1)) w) := by
 obtain ⟨A, c, rfl, -⟩ := hx.shape
 obtain ⟨B, d, rfl, -⟩ := hy.shape
 cases h1 : Go.Op.bytesLess x.1.name y.1.name with
 | true => exact (rless_name x.1 y.1 _ _ _ _ _ _ w h1).mono fun _ _ h => h.bool (by simp [lessX, lessS, stp, ltY, h1])
 | false =>
  by_cases h2 : x.1.name = y.1.name
  ·cases h3 : Go.Op.bytesLess x.1.key y.1.key with
   | true => exact (rless_key x.1 y.1 _ _ _ _ _ _ w h1 (beq_iff_eq.2 h2) h3).mono fun _ _ h => h.bool (by simp [lessX, lessS, stp, ltY, h1, h2, h3])
   | false => exact (rless_not x.1 y.1 _ _ _ _ _ _ w h1 (beq_iff_eq.2 h2) h3).mono fun _ _ h => h.bool (by rw [h2] at h1; simp [lessX, lessS, stp, ltY, h1, h2, h3])
  ·exact (rless_no x.1 y.1 _ _ _ _ _ _ w h1 (beq_eq_false_iff_ne.2 h2)).mono fun _ _ h => h.bool (by simp [lessX, lessS, stp, ltY, h1, h2])
theorem rsizef_any (f : NdF) : ∀ (a : NdD) (A : Option Addr) (c : Nat) (w : World), RowT w.heap.size w (.slice A f.len c) f → f.size ≤ 1000000 →
  Calls Try.prog 19 #[.agg (cN a (.slice A f.len c))] w (Ans9 (.int .i64 ((f.size + 1 : Nat) : Int)) w) := by
 refine Fr.byKids (P := fun f => ∀ (a : NdD) (A : Option Addr) (c : Nat) (w : World), RowT w.heap.size w (.slice A f.len c) f → f.size ≤ 1000000 →
  Calls Try.prog 19 #[.agg (cN a (.slice A f.len c))] w (Ans9 (.int .i64 ((f.size + 1 : Nat) : Int)) w)) ?_ f
 clear f
 intro f hkids a A c w hk hsz
 have hB : Below w.heap.size w (w.alloc (.cells (cN a (.slice A f.len c)) 27)) := bAl
 have HB0 := hHd hB
 have HI := hHd hkids
 have HK : Hid (RowT w.heap.size w (.slice A f.len c) f) := hHd hk
 have HZ : Hid (f.size ≤ 1000000) := hHd hsz
 clear hkids hk hsz hB
 go_enter Try.func19, Try.ntmps19
 go_wp2
 go_loopw [3, 4] (fun m i wr => ∃ (j s : Nat), j ≤ f.len ∧ i = .int .i64 (j : Int) ∧ m = .int .i64 (s : Int) ∧ Hid (s = (Fr.take j f).size + 1) ∧ Blk wr w.heap.size 27 (cN a (.slice A f.len c)) ∧ Below w.heap.size w wr) (fun _ i _ => f.len - (intOf i).toNat)
 case atStart => exact ⟨0, 1, Nat.zero_le _, rfl, rfl, hHd (by simp [Fr.take, Fr.size]), Blk.new _ _ _, HB0.out⟩
 case round =>
  obtain ⟨j, s, hj, rfl, rfl, HS, hP, hB⟩ := hrel
  have p5 : wr.cell? ⟨w.heap.size, 5, none⟩ = some (.slice A f.len c) := (hP.cell 5).trans rfl
  have HBr := hHd hB
  by_cases hlt : j < f.len
  ·obtain ⟨a1, q, hg⟩ := Fr.get_some hlt
   obtain ⟨b, o, A', c', rfl, -, -, hbl, hrow, hcl⟩ := HK.out.at hg
   have hcell : ∀ i u, (ndC a1 (.slice A' q.len c'))[i]? = some u → wr.cell? ⟨b, o + j * 6 + i, none⟩ = some u := fun i u hu => (hB.cell (p := ⟨b, o + j * 6 + i, none⟩) hbl).trans (hcl i u hu)
   have q0 : wr.cell? ⟨b, o + j * 6, none⟩ = _ := hcell 0 _ rfl
   have q1 : wr.cell? ⟨b, o + j * 6 + 1, none⟩ = _ := hcell 1 _ rfl
   have q2 : wr.cell? ⟨b, o + j * 6 + 2, none⟩ = _ := hcell 2 _ rfl
   have q3 : wr.cell? ⟨b, o + j * 6 + 3, none⟩ = _ := hcell 3 _ rfl
   have q4 : wr.cell? ⟨b, o + j * 6 + 4, none⟩ = _ := hcell 4 _ rfl
   have q5 : wr.cell? ⟨b, o + j * 6 + 5, none⟩ = _ := hcell 5 _ rfl
   have i1 : (0 : Int) ≤ (j : Int) := by omega
   have i2 : (j : Int) < (f.len : Int) := by omega
   have i3 : (f.len : Int) ≤ 1000000 := by have := HZ.out; have := Fr.len_size f; omega
   have hts : (Fr.take (j + 1) f).size = (Fr.take j f).size + (q.size + 1) := by
    rw [(Fr.get_drop hg).2, Fr.size_app]; simp [Fr.size]
   have hle : (Fr.take (j + 1) f).size ≤ f.size := by
    have := congrArg Fr.size (Fr.take_app_drop (j + 1) f); rw [Fr.size_app] at this; omega
   obtain ⟨z, hz⟩ : ∃ z, z = q.size + 1 := ⟨_, rfl⟩
   have HI1 : Hid (Calls Try.prog 19 #[.agg (cN a1 (.slice A' q.len c'))] wr (Ans9 (.int .i64 (z : Int)) wr)) := hHd (by
    rw [hz]; exact HI.out j a1 q hg a1 A' c' wr (hrow.under hB (Nat.le_refl _) hB.size) (by have := HZ.out; omega))
   have i4 : (0 : Int) ≤ (s : Int) := by omega
   have i5 : (s : Int) ≤ 1000001 := by have := HS.out; have := HZ.out; omega
   have i6 : (0 : Int) ≤ (z : Int) := by omega
   have i7 : (z : Int) ≤ 1000001 := by have := HZ.out; omega
   have HS2 : Hid (s + z = (Fr.take (j + 1) f).size + 1) := hHd (by have := HS.out; omega)
   have HP := hHd hP
   clear hcl hg hrow hcell hts hle hz hP hB hbl
   go_wp2_with fail
   refine HI1.out.mono ?_
   rintro r w2 ⟨rfl, hb⟩
   have HP2 := hHd (HP.out.below hb HP.out.lt)
   have HB2 := hHd (HBr.out.trans (hb.mono HBr.out.size))
   clear hb
   go_wp2
   go_roundw
   case rel => exact ⟨j + 1, s + z, by omega, by go_num, by go_num, HS2, HP2.out, HB2.out⟩
   case measure => simp [intOf]; omega
  ·have i2 : ¬ (j : Int) < (f.len : Int) := by omega
   have HF : Hid (s = f.size + 1) := hHd (by have := HS.out; rw [show j = f.len by omega, Fr.take_all] at this; exact this)
   clear hP hB
   go_wp2
   go_ret
   exact ⟨by rw [HF.out]; rfl, HBr.out⟩
theorem rsizet_any (x : Nd) (cs : List Value) (w : World) (hx : LieN w cs x) (hf : Few9 x) : Calls Try.prog 19 #[.agg cs.toArray] w (Ans9 (.int .i64 (sizeX x : Int)) w) := by
 obtain ⟨A, c, rfl, hk⟩ := hx.shape
 exact rsizef_any x.2 x.1 A c w hk hf
end Go.Proofs.Ythmobcaidhgeaaa
