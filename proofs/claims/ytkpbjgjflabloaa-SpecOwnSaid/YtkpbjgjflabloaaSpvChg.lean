/-
  Changes of the schema in memory, and what a change of a kid leaves. No condition but those of each theorem.
-/
import Derived.Test.YtkpbjgjflabloaaSpvOwn
namespace Go.Proofs.Ytkpbjgjflabloaa
open Go.RowKit
set_option linter.unusedSimpArgs false
set_option linter.unusedVariables false

/-- The closures f lie from place o on in block b; R: where all that they captured lies. -/
def ChAt (w : World) (R : Nat → Prop) : ChF → Nat → Nat → Prop
  | .nil, _, _ => True
  | .cons d k r, b, o => (∃ fv, w.cell? ⟨b, o, none⟩ = some fv ∧
      ((d.kind = 0 ∧ ∃ p, fv = .func (.func 40) #[] #[.pointer (some ⟨p, 0, none⟩)] ∧ R p ∧ Blk w p 9 #[.string (txt d.name)]) ∨
       (d.kind = 1 ∧ ∃ p q lc, fv = .func (.func 38) #[] #[.pointer (some ⟨p, 0, none⟩), .pointer (some ⟨q, 0, none⟩)] ∧ R p ∧ R q ∧ Blk w p 9 #[.string (txt d.name)] ∧ Blk w q 27 lc.toArray ∧ SpcD w R lc d.kid ∧ lc[8]? = some (.slice none 0 0)) ∨
       (d.kind ≠ 0 ∧ d.kind ≠ 1 ∧ ∃ p q A c, fv = .func (.func 37) #[] #[.pointer (some ⟨p, 0, none⟩), .pointer (some ⟨q, 0, none⟩)] ∧ R p ∧ R q ∧ Blk w p 9 #[.string (txt d.name)] ∧ Blk w q 67 #[.slice A k.len c] ∧ k.len ≤ c ∧
          (0 < k.len → ∃ b' o', A = some ⟨b', o', none⟩ ∧ R b' ∧ ChAt w R k b' o')))) ∧ ChAt w R r b (o + 1)
/-- The slice v reads as the changes f. -/
def ChS (w : World) (R : Nat → Prop) (v : Value) (f : ChF) : Prop := ∃ A c, v = .slice A f.len c ∧ f.len ≤ c ∧ (0 < f.len → ∃ b o, A = some ⟨b, o, none⟩ ∧ R b ∧ ChAt w R f b o)
/-- The value is the closure of a change. -/
def FunV (w : World) (R : Nat → Prop) (fv : Value) (d : ChD) (k : ChF) : Prop :=
  (d.kind = 0 ∧ ∃ p, fv = .func (.func 40) #[] #[.pointer (some ⟨p, 0, none⟩)] ∧ R p ∧ Blk w p 9 #[.string (txt d.name)]) ∨
  (d.kind = 1 ∧ ∃ p q lc, fv = .func (.func 38) #[] #[.pointer (some ⟨p, 0, none⟩), .pointer (some ⟨q, 0, none⟩)] ∧ R p ∧ R q ∧ Blk w p 9 #[.string (txt d.name)] ∧ Blk w q 27 lc.toArray ∧ SpcD w R lc d.kid ∧ lc[8]? = some (.slice none 0 0)) ∨
  (d.kind ≠ 0 ∧ d.kind ≠ 1 ∧ ∃ p q A c, fv = .func (.func 37) #[] #[.pointer (some ⟨p, 0, none⟩), .pointer (some ⟨q, 0, none⟩)] ∧ R p ∧ R q ∧ Blk w p 9 #[.string (txt d.name)] ∧ Blk w q 67 #[.slice A k.len c] ∧ ChS w R (.slice A k.len c) k)
theorem ChAt.cons_iff {w : World} {R : Nat → Prop} {d : ChD} {k r : ChF} {b o : Nat} : ChAt w R (.cons d k r) b o ↔ (∃ fv, w.cell? ⟨b, o, none⟩ = some fv ∧ FunV w R fv d k) ∧ ChAt w R r b (o + 1) := by
  constructor
  · rintro ⟨⟨fv, h1, h2⟩, h3⟩
    refine ⟨⟨fv, h1, ?_⟩, h3⟩
    rcases h2 with h | h | ⟨e0, e1, p, q, A, c, g1, g2, g3, g4, g5, g6, g7⟩
    · exact .inl h
    · exact .inr (.inl h)
    · exact .inr (.inr ⟨e0, e1, p, q, A, c, g1, g2, g3, g4, g5, A, c, rfl, g6, g7⟩)
  · rintro ⟨⟨fv, h1, h2⟩, h3⟩
    refine ⟨⟨fv, h1, ?_⟩, h3⟩
    rcases h2 with h | h | ⟨e0, e1, p, q, A, c, g1, g2, g3, g4, g5, A', c', g6, g7, g8⟩
    · exact .inl h
    · exact .inr (.inl h)
    · injection g6 with a1 a2 a3
      subst a1 a3
      exact .inr (.inr ⟨e0, e1, p, q, A, c, g1, g2, g3, g4, g5, g7, g8⟩)
theorem Blk.same {w w' : World} {g : Nat} {t : TypeId} {cs : Array Value} (h : Blk w g t cs) (e : w'.heap[g]? = w.heap[g]?) : Blk w' g t cs := e.trans h
theorem ChAt.keep {w w' : World} {R R' : Nat → Prop} (hR : ∀ g, R g → w'.heap[g]? = w.heap[g]?) (hRR : ∀ g, R g → R' g) : ∀ {f : ChF} {b o : Nat}, R b → ChAt w R f b o → ChAt w' R' f b o := by
  intro f
  induction f with
  | nil => intro b o _ _; trivial
  | cons d k r ihk ihr =>
    intro b o hb ⟨⟨fv, h1, h2⟩, h3⟩
    refine ⟨⟨fv, (World.cell?_of_block (w := w) (hR b hb)).trans h1, ?_⟩, ihr hb h3⟩
    rcases h2 with ⟨e0, p, g1, g2, g3⟩ | ⟨e0, p, q, lc, g1, g2, g3, g4, g5, g6, g7⟩ | ⟨e0, e1, p, q, A, c, g1, g2, g3, g4, g5, g6, g7⟩
    · exact .inl ⟨e0, p, g1, hRR _ g2, g3.same (hR _ g2)⟩
    · exact .inr (.inl ⟨e0, p, q, lc, g1, hRR _ g2, hRR _ g3, g4.same (hR _ g2), g5.same (hR _ g3), stay_spc _ _ _ _ _ _ hR hRR g6, g7⟩)
    · exact .inr (.inr ⟨e0, e1, p, q, A, c, g1, hRR _ g2, hRR _ g3, g4.same (hR _ g2), g5.same (hR _ g3), g6, fun h0 => by
        obtain ⟨b', o', k1, k2, k3⟩ := g7 h0
        exact ⟨b', o', k1, hRR _ k2, ihk k2 k3⟩⟩)
theorem ChS.keep {w w' : World} {R R' : Nat → Prop} {v : Value} {f : ChF} (h : ChS w R v f) (hR : ∀ g, R g → w'.heap[g]? = w.heap[g]?) (hRR : ∀ g, R g → R' g) : ChS w' R' v f := by
  obtain ⟨A, c, h1, h2, h3⟩ := h
  refine ⟨A, c, h1, h2, fun h0 => ?_⟩
  obtain ⟨b, o, g1, g2, g3⟩ := h3 h0
  exact ⟨b, o, g1, hRR _ g2, g3.keep hR hRR g2⟩
theorem FunV.keep {w w' : World} {R R' : Nat → Prop} {fv : Value} {d : ChD} {k : ChF} (h : FunV w R fv d k) (hR : ∀ g, R g → w'.heap[g]? = w.heap[g]?) (hRR : ∀ g, R g → R' g) : FunV w' R' fv d k := by
  rcases h with ⟨e0, p, g1, g2, g3⟩ | ⟨e0, p, q, lc, g1, g2, g3, g4, g5, g6, g7⟩ | ⟨e0, e1, p, q, A, c, g1, g2, g3, g4, g5, g6⟩
  · exact .inl ⟨e0, p, g1, hRR _ g2, g3.same (hR _ g2)⟩
  · exact .inr (.inl ⟨e0, p, q, lc, g1, hRR _ g2, hRR _ g3, g4.same (hR _ g2), g5.same (hR _ g3), stay_spc _ _ _ _ _ _ hR hRR g6, g7⟩)
  · exact .inr (.inr ⟨e0, e1, p, q, A, c, g1, hRR _ g2, hRR _ g3, g4.same (hR _ g2), g5.same (hR _ g3), g6.keep hR hRR⟩)
theorem ChAt.drop {w : World} {R : Nat → Prop} (n : Nat) : ∀ {f : ChF} {b o : Nat}, ChAt w R f b o → ChAt w R (Fr.drop n f) b (o + n) := by
  induction n with
  | zero => intro f b o h; cases f <;> exact h
  | succ n ih =>
    intro f b o h
    cases f with
    | nil => trivial
    | cons d k r =>
      have := ih h.2
      rwa [show o + 1 + n = o + (n + 1) by omega] at this
theorem ChS.at {w : World} {R : Nat → Prop} {v : Value} {f : ChF} (h : ChS w R v f) {n : Nat} {d : ChD} {k : ChF} (hn : f.get? n = some (d, k)) :
    ∃ b o c fv, v = .slice (some ⟨b, o, none⟩) f.len c ∧ f.len ≤ c ∧ R b ∧ w.cell? ⟨b, o + n, none⟩ = some fv ∧ FunV w R fv d k := by
  have hlt := Fr.get_lt hn
  obtain ⟨A, c, rfl, h1, h2⟩ := h
  obtain ⟨b, o, rfl, h3, h4⟩ := h2 (by omega)
  have h5 := h4.drop n
  rw [(Fr.get_drop hn).1] at h5
  obtain ⟨⟨fv, h6, h7⟩, -⟩ := ChAt.cons_iff.1 h5
  exact ⟨b, o, c, fv, rfl, h1, h3, h6, h7⟩

/-- What package spec's changed leaves. -/
def ChdP (base : Nat) (R : Nat → Prop) (F : List Nat) (x : Sp) (w : World) (r : Ending) (w' : World) : Prop :=
  ∃ cs F', r = .returned (.agg cs.toArray) ∧ OwnX w' base R cs x F' ∧ F'.Nodup ∧ (∀ g, g ∈ F' → g ∈ F ∨ w.heap.size ≤ g) ∧ Keeps base F w w'
def ChdC (k : ChF) : Prop := ∀ (base : Nat) (R : Nat → Prop) (F : List Nat) (cs : List Value) (x : Sp) (v : Value) (w : World), OwnX w base R cs x F → F.Nodup → (∀ g, R g → g < w.heap.size ∧ g ∉ F) → base ≤ w.heap.size → ChS w R v k → k.len ≤ 1000 → okC k x = true →
  Calls Try.prog 32 #[.agg cs.toArray, v] w (ChdP base R F (runC k x) w)
/-- Nine cells of a row written over. -/
def set9o (w : World) (b o : Nat) (x0 x1 x2 x3 x4 x5 x6 x7 x8 : Value) : World := ((((((((w.setCell ⟨b, o, none⟩ x0).setCell ⟨b, o + 1, none⟩ x1).setCell ⟨b, o + 2, none⟩ x2).setCell ⟨b, o + 3, none⟩ x3).setCell ⟨b, o + 4, none⟩ x4).setCell ⟨b, o + 5, none⟩ x5).setCell ⟨b, o + 6, none⟩ x6).setCell ⟨b, o + 7, none⟩ x7).setCell ⟨b, o + 8, none⟩ x8
theorem set9o_below {B : Nat} {w : World} {b o : Nat} {x0 x1 x2 x3 x4 x5 x6 x7 x8 : Value} (h : B ≤ b) : Below B w (set9o w b o x0 x1 x2 x3 x4 x5 x6 x7 x8) :=
  (((((((((Below.refl B w).setCell (p := ⟨b, o, none⟩) h x0).setCell (p := ⟨b, o + 1, none⟩) h x1).setCell (p := ⟨b, o + 2, none⟩) h x2).setCell (p := ⟨b, o + 3, none⟩) h x3).setCell (p := ⟨b, o + 4, none⟩) h x4).setCell (p := ⟨b, o + 5, none⟩) h x5).setCell (p := ⟨b, o + 6, none⟩) h x6).setCell (p := ⟨b, o + 7, none⟩) h x7).setCell (p := ⟨b, o + 8, none⟩) h x8
theorem set9o_other {w : World} {b o g : Nat} {x0 x1 x2 x3 x4 x5 x6 x7 x8 : Value} (h : g ≠ b) : (set9o w b o x0 x1 x2 x3 x4 x5 x6 x7 x8).heap[g]? = w.heap[g]? := by
  unfold set9o
  rw [Below.heap_setCell _ _ _ _ h, Below.heap_setCell _ _ _ _ h, Below.heap_setCell _ _ _ _ h, Below.heap_setCell _ _ _ _ h, Below.heap_setCell _ _ _ _ h, Below.heap_setCell _ _ _ _ h, Below.heap_setCell _ _ _ _ h, Below.heap_setCell _ _ _ _ h, Below.heap_setCell _ _ _ _ h]
theorem set9o_size {w : World} {b o : Nat} {x0 x1 x2 x3 x4 x5 x6 x7 x8 : Value} : (set9o w b o x0 x1 x2 x3 x4 x5 x6 x7 x8).heap.size = w.heap.size := by simp [set9o, World.setCell]
theorem set_mid (l k r : List Value) (j : Nat) (u : Value) (h : j < k.length) : (l ++ (k ++ r)).set (l.length + j) u = l ++ (k.set j u ++ r) := by
  rw [List.set_append_right _ _ (by omega), Nat.add_sub_cancel_left, List.set_append_left _ _ h]
theorem OwnK.set9o {w : World} {base b n c o : Nat} {xs1 xs2 : List Value} {y0 y1 y2 y3 y4 y5 y6 y7 y8 : Value} (h : OwnK 27 9 w base (.slice (some ⟨b, 0, none⟩) n c) n (xs1 ++ ([y0, y1, y2, y3, y4, y5, y6, y7, y8] ++ xs2))) (ho : xs1.length = o) (x0 x1 x2 x3 x4 x5 x6 x7 x8 : Value) :
    OwnK 27 9 (set9o w b o x0 x1 x2 x3 x4 x5 x6 x7 x8) base (.slice (some ⟨b, 0, none⟩) n c) n (xs1 ++ ([x0, x1, x2, x3, x4, x5, x6, x7, x8] ++ xs2)) := by
  subst ho
  have a0 := (World.ownsRow.stored h (xs1.length + 0) x0).1
  rw [set_mid _ _ _ _ _ (by simp)] at a0
  have a1 := (World.ownsRow.stored a0 (xs1.length + 1) x1).1
  rw [set_mid _ _ _ _ _ (by simp)] at a1
  have a2 := (World.ownsRow.stored a1 (xs1.length + 2) x2).1
  rw [set_mid _ _ _ _ _ (by simp)] at a2
  have a3 := (World.ownsRow.stored a2 (xs1.length + 3) x3).1
  rw [set_mid _ _ _ _ _ (by simp)] at a3
  have a4 := (World.ownsRow.stored a3 (xs1.length + 4) x4).1
  rw [set_mid _ _ _ _ _ (by simp)] at a4
  have a5 := (World.ownsRow.stored a4 (xs1.length + 5) x5).1
  rw [set_mid _ _ _ _ _ (by simp)] at a5
  have a6 := (World.ownsRow.stored a5 (xs1.length + 6) x6).1
  rw [set_mid _ _ _ _ _ (by simp)] at a6
  have a7 := (World.ownsRow.stored a6 (xs1.length + 7) x7).1
  rw [set_mid _ _ _ _ _ (by simp)] at a7
  have a8 := (World.ownsRow.stored a7 (xs1.length + 8) x8).1
  rw [set_mid _ _ _ _ _ (by simp)] at a8
  exact a8
/-- Changes of a kid. -/
theorem in_sit {w wa w5 : World} {base B b c i : Nat} {R : Nat → Prop} {hd xs1 ks xs2 : List Value} {F1 Fk F2 F' : List Nat} {x y y' : Sp} {z0 z1 z2 z3 z4 z5 z6 z7 z8 : Value}
    (box : Blk w B 27 (hd ++ [Value.slice (some ⟨b, 0, none⟩) x.2.len c]).toArray) (hl : hd.length = 8) (hD : SpcD w R (hd ++ [Value.slice (some ⟨b, 0, none⟩) x.2.len c]) x.1)
    (hk : OwnK 27 9 w base (.slice (some ⟨b, 0, none⟩) x.2.len c) x.2.len (xs1 ++ (ks ++ xs2))) (hi : x.2.get? i = some y) (ho : xs1.length = i * 9) (h1 : OwnT w base R (Fr.take i x.2) xs1 F1) (hks : ks.length = 9) (h3 : OwnT w base R (Fr.drop (i + 1) x.2) xs2 F2)
    (hFk : ∀ g, g ∈ Fk → g < w.heap.size) (nd : (B :: b :: (F1 ++ (Fk ++ F2))).Nodup) (rlt : ∀ g, R g → g < w.heap.size ∧ g ≠ B ∧ g ∉ b :: (F1 ++ (Fk ++ F2))) (hb : base ≤ B) (hwa : Below w.heap.size w wa)
    (hx : OwnX w5 base R [z0, z1, z2, z3, z4, z5, z6, z7, z8] y' F') (hnd : F'.Nodup) (hF' : ∀ g, g ∈ F' → g ∈ Fk ∨ wa.heap.size ≤ g) (hkp : Keeps base Fk wa w5) :
    ∃ G, Sit (set9o w5 b (i * 9) z0 z1 z2 z3 z4 z5 z6 z7 z8) base R B G (hd ++ [Value.slice (some ⟨b, 0, none⟩) x.2.len c]) (x.1, updF i y' x.2) ∧ Keeps base (B :: b :: (F1 ++ (Fk ++ F2))) w (set9o w5 b (i * 9) z0 z1 z2 z3 z4 z5 z6 z7 z8) ∧ ∀ g, g ∈ G → g ∈ b :: (F1 ++ (Fk ++ F2)) ∨ w.heap.size ≤ g := by
  have hBl := box.lt
  have hbl : b < w.heap.size := (hk.lt b rfl).2
  have hbb : base ≤ b := (hk.lt b rfl).1
  have hF1 : ∀ g, g ∈ F1 → g < w.heap.size := fun g hg => (h1.fresh g hg).lt
  have hF2 : ∀ g, g ∈ F2 → g < w.heap.size := fun g hg => (h3.fresh g hg).lt
  have hsz := hwa.size
  have hilt := Fr.get_lt hi
  simp only [List.nodup_cons, List.mem_cons, List.mem_append, not_or, List.nodup_append] at nd
  obtain ⟨⟨nBb, nB1, nBk, nB2⟩, ⟨nb1, nbk, nb2⟩, nd1, ⟨ndk, nd2, ndk2⟩, nd1k⟩ := nd
  have kept : ∀ g, g < w.heap.size → g ≠ b → g ∉ Fk → (set9o w5 b (i * 9) z0 z1 z2 z3 z4 z5 z6 z7 z8).heap[g]? = w.heap[g]? := fun g hg h1 h2 =>
    (set9o_other h1).trans ((hkp.2 g (Nat.lt_of_lt_of_le hg hsz) h2).trans (hwa.block g hg))
  have hR : ∀ g, R g → (set9o w5 b (i * 9) z0 z1 z2 z3 z4 z5 z6 z7 z8).heap[g]? = w.heap[g]? := fun g hg => by
    obtain ⟨r1, r2, r3⟩ := rlt g hg
    simp only [List.mem_cons, List.mem_append, not_or] at r3
    exact kept g r1 r3.1 r3.2.2.1
  have hR5 : ∀ g, R g → (set9o w5 b (i * 9) z0 z1 z2 z3 z4 z5 z6 z7 z8).heap[g]? = w5.heap[g]? := fun g hg => by
    obtain ⟨r1, r2, r3⟩ := rlt g hg
    simp only [List.mem_cons, List.mem_append, not_or] at r3
    exact set9o_other r3.1
  have hb5 : w5.heap[b]? = w.heap[b]? := (hkp.2 b (Nat.lt_of_lt_of_le hbl hsz) nbk).trans (hwa.block b hbl)
  have nF' : ∀ g, g ∈ F' → g ≠ b ∧ g ≠ B ∧ g ∉ F1 ∧ g ∉ F2 := fun g hg => by
    rcases hF' g hg with h | h
    · exact ⟨fun e => nbk (e ▸ h), fun e => nBk (e ▸ h), fun h' => nd1k g h' g (.inl h) rfl, fun h' => ndk2 g h g h' rfl⟩
    · exact ⟨by omega, by omega, fun h' => by have := hF1 g h'; omega, fun h' => by have := hF2 g h'; omega⟩
  refine ⟨b :: (F1 ++ (F' ++ F2)), ⟨?_, ?_, ?_, ?_, hb⟩, ⟨?_, ?_⟩, ?_⟩
  · exact box.same (kept B hBl (fun e => nBb e) nBk)
  · refine ⟨_, by simp [hl], stay_spc _ _ _ _ _ _ hR (fun _ h => h) hD, last_at hl, xs1 ++ ([z0, z1, z2, z3, z4, z5, z6, z7, z8] ++ xs2), F1 ++ (F' ++ F2), rfl, ?_, ?_⟩
    · rw [updF_len hilt]
      obtain ⟨y0, y1, y2, y3, y4, y5, y6, y7, y8, rfl⟩ : ∃ y0 y1 y2 y3 y4 y5 y6 y7 y8, ks = [y0, y1, y2, y3, y4, y5, y6, y7, y8] := by
        match ks, hks with
        | [y0, y1, y2, y3, y4, y5, y6, y7, y8], _ => exact ⟨y0, y1, y2, y3, y4, y5, y6, y7, y8, rfl⟩
      have hk5 : OwnK 27 9 w5 base (.slice (some ⟨b, 0, none⟩) x.2.len c) x.2.len (xs1 ++ ([y0, y1, y2, y3, y4, y5, y6, y7, y8] ++ xs2)) := hk.keep (fun g hg => by injection hg with hg; subst hg; exact hb5)
      exact hk5.set9o ho _ _ _ _ _ _ _ _ _
    · refine OwnT.upd (h1.keep hR (fun _ h => h) (Nat.le_refl _) (fun g hg => kept g (hF1 g hg) (fun e => nb1 (e ▸ hg)) (fun h' => nd1k g hg g (.inl h') rfl))) (hx.keep (fun g hg => set9o_other (nF' g hg).1) hR5 (fun _ h => h) (Nat.le_refl _)) ?_
      exact h3.keep hR (fun _ h => h) (Nat.le_refl _) (fun g hg => kept g (hF2 g hg) (fun e => nb2 (e ▸ hg)) (fun h' => ndk2 g h' g hg rfl))
  · simp only [List.nodup_cons, List.mem_cons, List.mem_append, not_or, List.nodup_append]
    refine ⟨⟨nBb, nB1, fun h => (nF' B h).2.1 rfl, nB2⟩, ⟨nb1, fun h => (nF' b h).1 rfl, nb2⟩, nd1, ⟨hnd, nd2, fun a ha d hd' e => ?_⟩, fun a ha d hd' e => ?_⟩
    · subst e; exact (nF' a ha).2.2.2 hd'
    · subst e
      rcases hd' with h | h
      · exact (nF' a h).2.2.1 ha
      · exact nd1k a ha a (.inr h) rfl
  · intro g hg
    obtain ⟨r1, r2, r3⟩ := rlt g hg
    simp only [List.mem_cons, List.mem_append, not_or] at r3
    refine ⟨by rw [set9o_size]; have := hkp.1.size; omega, r2, ?_⟩
    simp only [List.mem_cons, List.mem_append, not_or]
    refine ⟨r3.1, r3.2.1, fun h => ?_, r3.2.2.2⟩
    rcases hF' g h with h | h
    · exact r3.2.2.1 h
    · omega
  · exact ((hwa.mono (by omega)).trans hkp.1).trans (set9o_below hbb)
  · intro g hg hn
    simp only [List.mem_cons, List.mem_append, not_or] at hn
    exact kept g hg hn.2.1 hn.2.2.2.1
  · intro g hg
    simp only [List.mem_cons, List.mem_append] at hg ⊢
    rcases hg with hg | hg | hg | hg
    · exact .inl (.inl hg)
    · exact .inl (.inr (.inl hg))
    · rcases hF' g hg with h | h
      · exact .inl (.inr (.inr (.inl h)))
      · exact .inr (by omega)
    · exact .inl (.inr (.inr (.inr hg)))

end Go.Proofs.Ytkpbjgjflabloaa
