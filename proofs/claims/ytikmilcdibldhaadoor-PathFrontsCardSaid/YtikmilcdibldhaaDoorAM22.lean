/- SpvChg SpvFnF -/
import Derived.Test.YtikmilcdibldhaaDoorAM0
import Derived.Test.YtikmilcdibldhaaDoorAM19
import Derived.Test.YtikmilcdibldhaaDoorAM21
set_option linter.unusedSimpArgs false
set_option linter.unusedVariables false
namespace Go.Proofs.YtikmilcdibldhaaDoor
open Go.RowKit
def ChAt (w : World) (R : Nat → Prop) : ChF → Nat → Nat → Prop
 | .nil, _, _ => True
 | .cons d k r, b, o => (∃ fv, w.cell? ⟨b, o, none⟩ = some fv ∧
   ((d.kind = 0 ∧ ∃ p, fv = .func (.func 67) #[] #[.pointer (some ⟨p, 0, none⟩)] ∧ R p ∧ Blk w p 9 #[.string (txt d.name)]) ∨
    (d.kind = 1 ∧ ∃ p q lc, fv = .func (.func 65) #[] #[.pointer (some ⟨p, 0, none⟩), .pointer (some ⟨q, 0, none⟩)] ∧ R p ∧ R q ∧ Blk w p 9 #[.string (txt d.name)] ∧ Blk w q 34 lc.toArray ∧ SpcD w R lc d.kid ∧ lc[8]? = some (.slice none 0 0)) ∨
    (d.kind ≠ 0 ∧ d.kind ≠ 1 ∧ ∃ p q A c, fv = .func (.func 64) #[] #[.pointer (some ⟨p, 0, none⟩), .pointer (some ⟨q, 0, none⟩)] ∧ R p ∧ R q ∧ Blk w p 9 #[.string (txt d.name)] ∧ Blk w q 103 #[.slice A k.len c] ∧ k.len ≤ c ∧
     (0 < k.len → ∃ b' o', A = some ⟨b', o', none⟩ ∧ R b' ∧ ChAt w R k b' o')))) ∧ ChAt w R r b (o + 1)
def ChS (w : World) (R : Nat → Prop) (v : Value) (f : ChF) : Prop := ∃ A c, v = .slice A f.len c ∧ f.len ≤ c ∧ (0 < f.len → ∃ b o, A = some ⟨b, o, none⟩ ∧ R b ∧ ChAt w R f b o)
def FunV (w : World) (R : Nat → Prop) (fv : Value) (d : ChD) (k : ChF) : Prop :=
 (d.kind = 0 ∧ ∃ p, fv = .func (.func 67) #[] #[.pointer (some ⟨p, 0, none⟩)] ∧ R p ∧ Blk w p 9 #[.string (txt d.name)]) ∨
 (d.kind = 1 ∧ ∃ p q lc, fv = .func (.func 65) #[] #[.pointer (some ⟨p, 0, none⟩), .pointer (some ⟨q, 0, none⟩)] ∧ R p ∧ R q ∧ Blk w p 9 #[.string (txt d.name)] ∧ Blk w q 34 lc.toArray ∧ SpcD w R lc d.kid ∧ lc[8]? = some (.slice none 0 0)) ∨
 (d.kind ≠ 0 ∧ d.kind ≠ 1 ∧ ∃ p q A c, fv = .func (.func 64) #[] #[.pointer (some ⟨p, 0, none⟩), .pointer (some ⟨q, 0, none⟩)] ∧ R p ∧ R q ∧ Blk w p 9 #[.string (txt d.name)] ∧ Blk w q 103 #[.slice A k.len c] ∧ ChS w R (.slice A k.len c) k)
theorem ChAt.cons_iff {w : World} {R : Nat → Prop} {d : ChD} {k r : ChF} {b o : Nat} : ChAt w R (.cons d k r) b o ↔ (∃ fv, w.cell? ⟨b, o, none⟩ = some fv ∧ FunV w R fv d k) ∧ ChAt w R r b (o + 1) := by
 constructor
 ·rintro ⟨⟨fv, h1, h2⟩, h3⟩
  refine ⟨⟨fv, h1, ?_⟩, h3⟩
  rcases h2 with h | h | ⟨e0, e1, p, q, A, c, g1, g2, g3, g4, g5, g6, g7⟩
  ·exact .inl h
  ·exact .inr (.inl h)
  ·exact .inr (.inr ⟨e0, e1, p, q, A, c, g1, g2, g3, g4, g5, A, c, rfl, g6, g7⟩)
 ·rintro ⟨⟨fv, h1, h2⟩, h3⟩
  refine ⟨⟨fv, h1, ?_⟩, h3⟩
  rcases h2 with h | h | ⟨e0, e1, p, q, A, c, g1, g2, g3, g4, g5, A', c', g6, g7, g8⟩
  ·exact .inl h
  ·exact .inr (.inl h)
  ·injection g6 with a1 a2 a3
   subst a1 a3
   exact .inr (.inr ⟨e0, e1, p, q, A, c, g1, g2, g3, g4, g5, g7, g8⟩)
theorem Blk.same {w w' : World} {g : Nat} {t : TypeId} {cs : Array Value} (h : Blk w g t cs) (e : w'.heap[g]? = w.heap[g]?) : Blk w' g t cs := e.trans h
theorem ChAt.keep {w w' : World} {R R' : Nat → Prop} (hR : ∀ g, R g → w'.heap[g]? = w.heap[g]?) (hRR : ∀ g, R g → R' g) : ∀ {f : ChF} {b o : Nat}, R b → ChAt w R f b o → ChAt w' R' f b o := by
 intro f
 induction f with
 | nil => intro b o _ _; trivial
 | cons d k r ihk ihr =>
  intro b o hb ⟨⟨fv, h1, h2⟩, h3⟩
  refine ⟨⟨fv, (World.cell?_of_block (w := w) (hR b hb)).trans h1, ?_⟩, ihr hb h3⟩
  rcases h2 with ⟨e0, p, g1, g2, g3⟩ | ⟨e0, p, q, lc, g1, g2, g3, g4, g5, g6, g7⟩ | ⟨e0, e1, p, q, A, c, g1, g2, g3, g4, g5, g6, g7⟩
  ·exact .inl ⟨e0, p, g1, hRR _ g2, g3.same (hR _ g2)⟩
  ·exact .inr (.inl ⟨e0, p, q, lc, g1, hRR _ g2, hRR _ g3, g4.same (hR _ g2), g5.same (hR _ g3), stay_spc _ _ _ _ _ _ hR hRR g6, g7⟩)
  ·exact .inr (.inr ⟨e0, e1, p, q, A, c, g1, hRR _ g2, hRR _ g3, g4.same (hR _ g2), g5.same (hR _ g3), g6, fun h0 => by
    obtain ⟨b', o', k1, k2, k3⟩ := g7 h0
    exact ⟨b', o', k1, hRR _ k2, ihk k2 k3⟩⟩)
theorem ChS.keep {w w' : World} {R R' : Nat → Prop} {v : Value} {f : ChF} (h : ChS w R v f) (hR : ∀ g, R g → w'.heap[g]? = w.heap[g]?) (hRR : ∀ g, R g → R' g) : ChS w' R' v f := by
 obtain ⟨A, c, h1, h2, h3⟩ := h
 refine ⟨A, c, h1, h2, fun h0 => ?_⟩
 obtain ⟨b, o, g1, g2, g3⟩ := h3 h0
 exact ⟨b, o, g1, hRR _ g2, g3.keep hR hRR g2⟩
theorem FunV.keep {w w' : World} {R R' : Nat → Prop} {fv : Value} {d : ChD} {k : ChF} (h : FunV w R fv d k) (hR : ∀ g, R g → w'.heap[g]? = w.heap[g]?) (hRR : ∀ g, R g → R' g) : FunV w' R' fv d k := by
 rcases h with ⟨e0, p, g1, g2, g3⟩ | ⟨e0, p, q, lc, g1, g2, g3, g4, g5, g6, g7⟩ | ⟨e0, e1, p, q, A, c, g1, g2, g3, g4, g5, g6⟩
 ·exact .inl ⟨e0, p, g1, hRR _ g2, g3.same (hR _ g2)⟩
 ·exact .inr (.inl ⟨e0, p, q, lc, g1, hRR _ g2, hRR _ g3, g4.same (hR _ g2), g5.same (hR _ g3), stay_spc _ _ _ _ _ _ hR hRR g6, g7⟩)
 ·exact .inr (.inr ⟨e0, e1, p, q, A, c, g1, hRR _ g2, hRR _ g3, g4.same (hR _ g2), g5.same (hR _ g3), g6.keep hR hRR⟩)
theorem ChAt.drop {w : World} {R : Nat → Prop} (n : Nat) : ∀ {f : ChF} {b o : Nat}, ChAt w R f b o → ChAt w R (Fr.drop n f) b (o + n) := by
 induction n with
 | zero => intro f b o h; cases f <;> exact h
 | succ n ih =>
  intro f b o h
  cases f with
  | nil => trivial
  | cons d k r =>
   have := ih h.2
   rwa [show o + 1 + n = o + (n + 1) by omega] at this
theorem ChS.at {w : World} {R : Nat → Prop} {v : Value} {f : ChF} (h : ChS w R v f) {n : Nat} {d : ChD} {k : ChF} (hn : f.get? n = some (d, k)) :
  ∃ b o c fv, v = .slice (some ⟨b, o, none⟩) f.len c ∧ f.len ≤ c ∧ R b ∧ w.cell? ⟨b, o + n, none⟩ = some fv ∧ FunV w R fv d k := by
 have hlt := Fr.get_lt hn
 obtain ⟨A, c, rfl, h1, h2⟩ := h
 obtain ⟨b, o, rfl, h3, h4⟩ := h2 (by omega)
 have h5 := h4.drop n
 rw [(Fr.get_drop hn).1] at h5
 obtain ⟨⟨fv, h6, h7⟩, -⟩ := ChAt.cons_iff.1 h5
 exact ⟨b, o, c, fv, rfl, h1, h3, h6, h7⟩
def ChdP (base : Nat) (R : Nat → Prop) (F : List Nat) (x : Sp) (w : World) (r : Ending) (w' : World) : Prop :=
 ∃ cs F', r = .returned (.agg cs.toArray) ∧ OwnX w' base R cs x F' ∧ F'.Nodup ∧ (∀ g, g ∈ F' → g ∈ F ∨ w.heap.size ≤ g) ∧ SKeeps base F w w'
def ChdC (k : ChF) : Prop := ∀ (base : Nat) (R : Nat → Prop) (F : List Nat) (cs : List Value) (x : Sp) (v : Value) (w : World), OwnX w base R cs x F → F.Nodup → (∀ g, R g → g < w.heap.size ∧ g ∉ F) → base ≤ w.heap.size → ChS w R v k → k.len ≤ 1000 → okC k x = true →
 Calls Tryd.prog 53 #[.agg cs.toArray, v] w (ChdP base R F (runC k x) w)
def set9o (w : World) (b o : Nat) (x0 x1 x2 x3 x4 x5 x6 x7 x8 : Value) : World := ((((((((w.setCell ⟨b, o, none⟩ x0).setCell ⟨b, o + 1, none⟩ x1).setCell ⟨b, o + 2, none⟩ x2).setCell ⟨b, o + 3, none⟩ x3).setCell ⟨b, o + 4, none⟩ x4).setCell ⟨b, o + 5, none⟩ x5).setCell ⟨b, o + 6, none⟩ x6).setCell ⟨b, o + 7, none⟩ x7).setCell ⟨b, o + 8, none⟩ x8
theorem set9o_below {B : Nat} {w : World} {b o : Nat} {x0 x1 x2 x3 x4 x5 x6 x7 x8 : Value} (h : B ≤ b) : Below B w (set9o w b o x0 x1 x2 x3 x4 x5 x6 x7 x8) :=
 (((((((((Below.refl B w).setCell (p := ⟨b, o, none⟩) h x0).setCell (p := ⟨b, o + 1, none⟩) h x1).setCell (p := ⟨b, o + 2, none⟩) h x2).setCell (p := ⟨b, o + 3, none⟩) h x3).setCell (p := ⟨b, o + 4, none⟩) h x4).setCell (p := ⟨b, o + 5, none⟩) h x5).setCell (p := ⟨b, o + 6, none⟩) h x6).setCell (p := ⟨b, o + 7, none⟩) h x7).setCell (p := ⟨b, o + 8, none⟩) h x8
theorem set9o_other {w : World} {b o g : Nat} {x0 x1 x2 x3 x4 x5 x6 x7 x8 : Value} (h : g ≠ b) : (set9o w b o x0 x1 x2 x3 x4 x5 x6 x7 x8).heap[g]? = w.heap[g]? := by
 unfold set9o
 rw [Below.heap_setCell _ _ _ _ h, Below.heap_setCell _ _ _ _ h, Below.heap_setCell _ _ _ _ h, Below.heap_setCell _ _ _ _ h, Below.heap_setCell _ _ _ _ h, Below.heap_setCell _ _ _ _ h, Below.heap_setCell _ _ _ _ h, Below.heap_setCell _ _ _ _ h, Below.heap_setCell _ _ _ _ h]
theorem set9o_size {w : World} {b o : Nat} {x0 x1 x2 x3 x4 x5 x6 x7 x8 : Value} : (set9o w b o x0 x1 x2 x3 x4 x5 x6 x7 x8).heap.size = w.heap.size := by simp [set9o, World.setCell]
theorem set_mid (l k r : List Value) (j : Nat) (u : Value) (h : j < k.length) : (l ++ (k ++ r)).set (l.length + j) u = l ++ (k.set j u ++ r) := by
 rw [List.set_append_right _ _ (by omega), Nat.add_sub_cancel_left, List.set_append_left _ _ h]
theorem OwnK.set9o {w : World} {base b n c o : Nat} {xs1 xs2 : List Value} {y0 y1 y2 y3 y4 y5 y6 y7 y8 : Value} (h : OwnK 34 9 w base (.slice (some ⟨b, 0, none⟩) n c) n (xs1 ++ ([y0, y1, y2, y3, y4, y5, y6, y7, y8] ++ xs2))) (ho : xs1.length = o) (x0 x1 x2 x3 x4 x5 x6 x7 x8 : Value) :
  OwnK 34 9 (set9o w b o x0 x1 x2 x3 x4 x5 x6 x7 x8) base (.slice (some ⟨b, 0, none⟩) n c) n (xs1 ++ ([x0, x1, x2, x3, x4, x5, x6, x7, x8] ++ xs2)) := by
 subst ho
 have a0 := (World.ownsRow.stored h (xs1.length + 0) x0).1
 rw [set_mid _ _ _ _ _ (by simp)] at a0
 have a1 := (World.ownsRow.stored a0 (xs1.length + 1) x1).1
 rw [set_mid _ _ _ _ _ (by simp)] at a1
 have a2 := (World.ownsRow.stored a1 (xs1.length + 2) x2).1
 rw [set_mid _ _ _ _ _ (by simp)] at a2
 have a3 := (World.ownsRow.stored a2 (xs1.length + 3) x3).1
 rw [set_mid _ _ _ _ _ (by simp)] at a3
 have a4 := (World.ownsRow.stored a3 (xs1.length + 4) x4).1
 rw [set_mid _ _ _ _ _ (by simp)] at a4
 have a5 := (World.ownsRow.stored a4 (xs1.length + 5) x5).1
 rw [set_mid _ _ _ _ _ (by simp)] at a5
 have a6 := (World.ownsRow.stored a5 (xs1.length + 6) x6).1
 rw [set_mid _ _ _ _ _ (by simp)] at a6
 have a7 := (World.ownsRow.stored a6 (xs1.length + 7) x7).1
 rw [set_mid _ _ _ _ _ (by simp)] at a7
 have a8 := (World.ownsRow.stored a7 (xs1.length + 8) x8).1
 rw [set_mid _ _ _ _ _ (by simp)] at a8
 exact a8
theorem in_sit {w wa w5 : World} {base B b c i : Nat} {R : Nat → Prop} {hd xs1 ks xs2 : List Value} {F1 Fk F2 F' : List Nat} {x y y' : Sp} {z0 z1 z2 z3 z4 z5 z6 z7 z8 : Value}
  (box : Blk w B 34 (hd ++ [Value.slice (some ⟨b, 0, none⟩) x.2.len c]).toArray) (hl : hd.length = 8) (hD : SpcD w R (hd ++ [Value.slice (some ⟨b, 0, none⟩) x.2.len c]) x.1)
  (hk : OwnK 34 9 w base (.slice (some ⟨b, 0, none⟩) x.2.len c) x.2.len (xs1 ++ (ks ++ xs2))) (hi : x.2.get? i = some y) (ho : xs1.length = i * 9) (h1 : SOwnT w base R (Fr.take i x.2) xs1 F1) (hks : ks.length = 9) (h3 : SOwnT w base R (Fr.drop (i + 1) x.2) xs2 F2)
  (hFk : ∀ g, g ∈ Fk → g < w.heap.size) (nd : (B :: b :: (F1 ++ (Fk ++ F2))).Nodup) (rlt : ∀ g, R g → g < w.heap.size ∧ g ≠ B ∧ g ∉ b :: (F1 ++ (Fk ++ F2))) (hb : base ≤ B) (hwa : Below w.heap.size w wa)
  (hx : OwnX w5 base R [z0, z1, z2, z3, z4, z5, z6, z7, z8] y' F') (hnd : F'.Nodup) (hF' : ∀ g, g ∈ F' → g ∈ Fk ∨ wa.heap.size ≤ g) (hkp : SKeeps base Fk wa w5) :
  ∃ G, Sit (set9o w5 b (i * 9) z0 z1 z2 z3 z4 z5 z6 z7 z8) base R B G (hd ++ [Value.slice (some ⟨b, 0, none⟩) x.2.len c]) (x.1, supdF i y' x.2) ∧ SKeeps base (B :: b :: (F1 ++ (Fk ++ F2))) w (set9o w5 b (i * 9) z0 z1 z2 z3 z4 z5 z6 z7 z8) ∧ ∀ g, g ∈ G → g ∈ b :: (F1 ++ (Fk ++ F2)) ∨ w.heap.size ≤ g := by
 have hBl := box.lt
 have hbl : b < w.heap.size := (hk.lt b rfl).2
 have hbb : base ≤ b := (hk.lt b rfl).1
 have hF1 : ∀ g, g ∈ F1 → g < w.heap.size := fun g hg => (h1.fresh g hg).lt
 have hF2 : ∀ g, g ∈ F2 → g < w.heap.size := fun g hg => (h3.fresh g hg).lt
 have hsz := hwa.size
 have hilt := Fr.get_lt hi
 simp only [List.nodup_cons, List.mem_cons, List.mem_append, not_or, List.nodup_append] at nd
 obtain ⟨⟨nBb, nB1, nBk, nB2⟩, ⟨nb1, nbk, nb2⟩, nd1, ⟨ndk, nd2, ndk2⟩, nd1k⟩ := nd
 have kept : ∀ g, g < w.heap.size → g ≠ b → g ∉ Fk → (set9o w5 b (i * 9) z0 z1 z2 z3 z4 z5 z6 z7 z8).heap[g]? = w.heap[g]? := fun g hg h1 h2 =>
  (set9o_other h1).trans ((hkp.2 g (Nat.lt_of_lt_of_le hg hsz) h2).trans (hwa.block g hg))
 have hR : ∀ g, R g → (set9o w5 b (i * 9) z0 z1 z2 z3 z4 z5 z6 z7 z8).heap[g]? = w.heap[g]? := fun g hg => by
  obtain ⟨r1, r2, r3⟩ := rlt g hg
  simp only [List.mem_cons, List.mem_append, not_or] at r3
  exact kept g r1 r3.1 r3.2.2.1
 have hR5 : ∀ g, R g → (set9o w5 b (i * 9) z0 z1 z2 z3 z4 z5 z6 z7 z8).heap[g]? = w5.heap[g]? := fun g hg => by
  obtain ⟨r1, r2, r3⟩ := rlt g hg
  simp only [List.mem_cons, List.mem_append, not_or] at r3
  exact set9o_other r3.1
 have hb5 : w5.heap[b]? = w.heap[b]? := (hkp.2 b (Nat.lt_of_lt_of_le hbl hsz) nbk).trans (hwa.block b hbl)
 have nF' : ∀ g, g ∈ F' → g ≠ b ∧ g ≠ B ∧ g ∉ F1 ∧ g ∉ F2 := fun g hg => by
  rcases hF' g hg with h | h
  ·exact ⟨fun e => nbk (e ▸ h), fun e => nBk (e ▸ h), fun h' => nd1k g h' g (.inl h) rfl, fun h' => ndk2 g h g h' rfl⟩
  ·exact ⟨by omega, by omega, fun h' => by have := hF1 g h'; omega, fun h' => by have := hF2 g h'; omega⟩
 refine ⟨b :: (F1 ++ (F' ++ F2)), ⟨?_, ?_, ?_, ?_, hb⟩, ⟨?_, ?_⟩, ?_⟩
 ·exact box.same (kept B hBl (fun e => nBb e) nBk)
 ·refine ⟨_, by simp [hl], stay_spc _ _ _ _ _ _ hR (fun _ h => h) hD, last_at hl, xs1 ++ ([z0, z1, z2, z3, z4, z5, z6, z7, z8] ++ xs2), F1 ++ (F' ++ F2), rfl, ?_, ?_⟩
  ·rw [supdF_len hilt]
   obtain ⟨y0, y1, y2, y3, y4, y5, y6, y7, y8, rfl⟩ : ∃ y0 y1 y2 y3 y4 y5 y6 y7 y8, ks = [y0, y1, y2, y3, y4, y5, y6, y7, y8] := by
    match ks, hks with
    | [y0, y1, y2, y3, y4, y5, y6, y7, y8], _ => exact ⟨y0, y1, y2, y3, y4, y5, y6, y7, y8, rfl⟩
   have hk5 : OwnK 34 9 w5 base (.slice (some ⟨b, 0, none⟩) x.2.len c) x.2.len (xs1 ++ ([y0, y1, y2, y3, y4, y5, y6, y7, y8] ++ xs2)) := hk.keep (fun g hg => by injection hg with hg; subst hg; exact hb5)
   exact hk5.set9o ho _ _ _ _ _ _ _ _ _
  ·refine SOwnT.upd (h1.keep hR (fun _ h => h) (Nat.le_refl _) (fun g hg => kept g (hF1 g hg) (fun e => nb1 (e ▸ hg)) (fun h' => nd1k g hg g (.inl h') rfl))) (hx.keep (fun g hg => set9o_other (nF' g hg).1) hR5 (fun _ h => h) (Nat.le_refl _)) ?_
   exact h3.keep hR (fun _ h => h) (Nat.le_refl _) (fun g hg => kept g (hF2 g hg) (fun e => nb2 (e ▸ hg)) (fun h' => ndk2 g h' g hg rfl))
 ·simp only [List.nodup_cons, List.mem_cons, List.mem_append, not_or, List.nodup_append]
  refine ⟨⟨nBb, nB1, fun h => (nF' B h).2.1 rfl, nB2⟩, ⟨nb1, fun h => (nF' b h).1 rfl, nb2⟩, nd1, ⟨hnd, nd2, fun a ha d hd' e => ?_⟩, fun a ha d hd' e => ?_⟩
  ·subst e; exact (nF' a ha).2.2.2 hd'
  ·subst e
   rcases hd' with h | h
   ·exact (nF' a h).2.2.1 ha
   ·exact nd1k a ha a (.inr h) rfl
 ·intro g hg
  obtain ⟨r1, r2, r3⟩ := rlt g hg
  simp only [List.mem_cons, List.mem_append, not_or] at r3
  refine ⟨by rw [set9o_size]; have := hkp.1.size; omega, r2, ?_⟩
  simp only [List.mem_cons, List.mem_append, not_or]
  refine ⟨r3.1, r3.2.1, fun h => ?_, r3.2.2.2⟩
  rcases hF' g h with h | h
  ·exact r3.2.2.1 h
  ·omega
 ·exact ((hwa.mono (by omega)).trans hkp.1).trans (set9o_below hbb)
 ·intro g hg hn
  simp only [List.mem_cons, List.mem_append, not_or] at hn
  exact kept g hg hn.2.1 hn.2.2.2.1
 ·intro g hg
  simp only [List.mem_cons, List.mem_append] at hg ⊢
  rcases hg with hg | hg | hg | hg
  ·exact .inl (.inl hg)
  ·exact .inl (.inr (.inl hg))
  ·rcases hF' g hg with h | h
   ·exact .inl (.inr (.inr (.inl h)))
   ·exact .inr (by omega)
  ·exact .inl (.inr (.inr (.inr hg)))
end Go.Proofs.YtikmilcdibldhaaDoor
namespace Go.Proofs.YtikmilcdibldhaaDoor
open Go.RowKit
theorem OwnX.nine {w : World} {base : Nat} {R : Nat → Prop} {cs : List Value} {x : Sp} {F : List Nat} (h : OwnX w base R cs x F) : ∃ z0 z1 z2 z3 z4 z5 z6 z7 z8, cs = [z0, z1, z2, z3, z4, z5, z6, z7, z8] := by
 obtain ⟨v, hl, _⟩ := h
 match cs, hl with
 | [z0, z1, z2, z3, z4, z5, z6, z7, z8], _ => exact ⟨_, _, _, _, _, _, _, _, _, rfl⟩
theorem OwnX.one {w : World} {base : Nat} {R : Nat → Prop} {cs : List Value} {x : Sp} {F : List Nat} (h : OwnX w base R cs x F) {j : Nat} {u : Value} (hj : cs[j]? = some u) : u.oneCell' = true := by
 obtain ⟨v, hl, hD, _⟩ := h
 exact hD.oneC u (List.mem_iff_getElem?.2 ⟨j, hj⟩)
theorem mid_at {xs1 ks xs2 : List Value} {j : Nat} {u : Value} (h : ks[j]? = some u) : (xs1 ++ (ks ++ xs2))[xs1.length + j]? = some u := by
 rw [List.getElem?_append_right (by omega), Nat.add_sub_cancel_left, List.getElem?_append_left (List.getElem?_eq_some_iff.1 h).1]
 exact h
set_option maxRecDepth 100000 in
set_option maxHeartbeats 4000000 in
theorem in1_any (k : ChF) (hP : ChdC k) (n : List UInt8) (base B p q : Nat) (R : Nat → Prop) (F : List Nat) (cs : List Value) (x y : Sp) (A' : Option Addr) (c' : Nat) (w : World) (h : Sit w base R B F cs x) (hp : Blk w p 9 #[.string (txt n)]) (hq : Blk w q 103 #[.slice A' k.len c'])
  (hch : ChS w R (.slice A' k.len c') k) (hRp : R p) (hRq : R q) (i : Nat) (hfi : findX n x.2 = some i) (hi : x.2.get? i = some y) (hkl : k.len ≤ 1000) (hok : okC k y = true) (hfew : x.2.len ≤ 100) :
  Calls Tryd.prog 64 #[.pointer (some ⟨B, 0, none⟩), .pointer (some ⟨p, 0, none⟩), .pointer (some ⟨q, 0, none⟩)] w (ChgP base R B F (x.1, supdF i (runC k y) x.2) w) := by
 obtain ⟨box, own, nd, rlt, hb⟩ := h
 have hspn := own.spn
 have hFl := own.lt
 have hilt := Fr.get_lt hi
 obtain ⟨v, h1, hD, h5, zs, F0, rfl, hk, ht⟩ := own
 obtain ⟨Bn, m, A, c, dn, rfl, -, -, -⟩ := hspn.shape
 simp at h5
 subst h5
 obtain ⟨b, rfl⟩ : ∃ b, A = some ⟨b, 0, none⟩ := by
  rcases hk.2 with ⟨_, h0⟩ | ⟨g, cap, cur, e, _⟩
  ·omega
  ·injection e with e; exact ⟨g, e⟩
 have hcap : x.2.len ≤ c := by
  rcases hk.2 with ⟨e, _⟩ | ⟨g', cap, cur, e, _, _, hnc, _⟩
  ·cases e
  ·injection e with _ _ h3; rw [h3]; exact hnc
 obtain ⟨xs1, ks, xs2, F1, Fk, F2, rfl, rfl, ho, t1, tk, t3⟩ := ht.at hi
 obtain ⟨vk, kl, kD, k8, kU⟩ := tk
 obtain ⟨y0, y1, y2, y3, y4, y5, y6, y7, y8, rfl⟩ : ∃ y0 y1 y2 y3 y4 y5 y6 y7 y8, ks = [y0, y1, y2, y3, y4, y5, y6, y7, y8] := by
  match ks, kl with
  | [y0, y1, y2, y3, y4, y5, y6, y7, y8], _ => exact ⟨y0, y1, y2, y3, y4, y5, y6, y7, y8, rfl⟩
 have tk : OwnX w base R [y0, y1, y2, y3, y4, y5, y6, y7, y8] y Fk := ⟨vk, kl, kD, k8, kU⟩
 have hFk : ∀ g, g ∈ Fk → g < w.heap.size := tk.lt
 have hBl := box.lt
 have hRl : ∀ g, R g → g < w.heap.size := fun g hg => (rlt g hg).1
 have nd' : (B :: b :: (F1 ++ (Fk ++ F2))).Nodup := nd
 have rlt' : ∀ g, R g → g < w.heap.size ∧ g ≠ B ∧ g ∉ b :: (F1 ++ (Fk ++ F2)) := rlt
 have ndk : Fk.Nodup := by
  simp only [List.nodup_cons, List.nodup_append] at nd'
  exact nd'.2.2.2.1.1
 have hpB : p ≠ B := (rlt p hRp).2.1
 have hqB : q ≠ B := (rlt q hRq).2.1
 have hqb : q ≠ b := fun e => (rlt' q hRq).2.2 (by simp [e])
 have hqk : q ∉ Fk := fun e => (rlt' q hRq).2.2 (by simp [e])
 have hbk : b ∉ Fk := by
  simp only [List.nodup_cons, List.mem_append, not_or] at nd'
  exact nd'.2.1.2.1
 have hbase : base ≤ w.heap.size := by omega
 have hbl : b < w.heap.size := (hk.lt b rfl).2
 have hql := hq.lt
 have hcell : ∀ (W : World) (j : Nat) (u : Value), W.heap[b]? = w.heap[b]? → [y0, y1, y2, y3, y4, y5, y6, y7, y8][j]? = some u → W.cell? ⟨b, i * 9 + j, none⟩ = some u := fun W j u e hj => by
  rw [World.cell?_of_block (w := w) (a := ⟨b, i * 9 + j, none⟩) e, World.ownsRow.cellAt hk (i * 9 + j) (by have := (List.getElem?_eq_some_iff.1 hj).1; simp at this; omega), ← ho]
  exact mid_at hj
 have hfro : ∀ (W : World) (j : Nat), W.heap[b]? = w.heap[b]? → W.frozen? ⟨b, i * 9 + j, none⟩ = false := fun W j e => by
  have hk2 : OwnK 34 9 W base (.slice (some ⟨b, 0, none⟩) x.2.len c) x.2.len (xs1 ++ ([y0, y1, y2, y3, y4, y5, y6, y7, y8] ++ xs2)) := hk.keep (fun g hg => by injection hg with hg; subst hg; exact e)
  exact World.ownsRow.frozenAt hk2 (i * 9 + j)
 have HFI : Hid (∀ W, Below w.heap.size w W → Hid (Calls Tryd.prog 19 #[.agg #[.string (txt x.1.name), .int .i64 (x.1.kind : Int), .int .i64 (x.1.typ : Int), .int .u64 (x.1.low : Int), .int .u64 (x.1.high : Int), .slice Bn x.1.names.length m, .bool x.1.must, .int .i64 (x.1.most : Int), .slice (some ⟨b, 0, none⟩) x.2.len c], .string (txt n)] W (fun r w' => r = .returned (.int .i64 (i : Int)) ∧ Below W.heap.size W w'))) := Lib.hid (fun W hW => Lib.hid (by
  have hF := sfind_any n _ _ _ x W (hspn.kept stay_spc (fun g hg => hW.block g (hFl g hg)) (fun _ h => h) (fun g hg => hW.block g (hRl g hg)) (fun _ h => h)) (fun g hg => Nat.lt_of_lt_of_le (hFl g hg) hW.size) (fun g hg => Nat.lt_of_lt_of_le (hRl g hg) hW.size) (by omega)
  rw [add_find hfi] at hF
  exact hF))
 have HCH : Hid (∀ W, Below w.heap.size w W → Hid (Calls Tryd.prog 53 #[.agg #[y0, y1, y2, y3, y4, y5, y6, y7, y8], .slice A' k.len c'] W (ChdP base R Fk (runC k y) W))) := Lib.hid (fun W hW => Lib.hid
  (hP base R Fk _ y (.slice A' k.len c') W (tk.keep (fun g hg => hW.block g (hFk g hg)) (fun g hg => hW.block g (hRl g hg)) (fun _ h => h) (Nat.le_refl _)) ndk
   (fun g hg => ⟨Nat.lt_of_lt_of_le (hRl g hg) hW.size, fun e => (rlt' g hg).2.2 (by simp [e])⟩) (Nat.le_trans hbase hW.size) (hch.keep (fun g hg => hW.block g (hRl g hg)) (fun _ h => h)) hkl hok))
 have HEND : Hid (∀ (wa w5 : World) (z0 z1 z2 z3 z4 z5 z6 z7 z8 : Value) (F' : List Nat), Below w.heap.size w wa → OwnX w5 base R [z0, z1, z2, z3, z4, z5, z6, z7, z8] (runC k y) F' → F'.Nodup → (∀ g, g ∈ F' → g ∈ Fk ∨ wa.heap.size ≤ g) → SKeeps base Fk wa w5 →
   Hid (ChgP base R B ((Value.slice (some ⟨b, 0, none⟩) x.2.len c).ownBlock.toList ++ (F1 ++ (Fk ++ F2))) (x.1, supdF i (runC k y) x.2) w (.returned (.tuple #[])) (set9o w5 b (i * 9) z0 z1 z2 z3 z4 z5 z6 z7 z8))) :=
  Lib.hid (fun wa w5 z0 z1 z2 z3 z4 z5 z6 z7 z8 F' g1 g2 g3 g4 g5 => Lib.hid ⟨rfl, _, in_sit (F1 := F1) (Fk := Fk) (F2 := F2) (hd := [.string (txt x.1.name), .int .i64 (x.1.kind : Int), .int .i64 (x.1.typ : Int), .int .u64 (x.1.low : Int), .int .u64 (x.1.high : Int), .slice Bn x.1.names.length m, .bool x.1.must, .int .i64 (x.1.most : Int)]) box rfl hD hk hi ho t1 rfl t3 hFk nd' rlt' hb g1 g2 g3 g4 g5⟩)
 have HKB : Hid (∀ (wa w5 : World), Below w.heap.size w wa → SKeeps base Fk wa w5 → w5.heap[b]? = w.heap[b]? ∧ w5.heap[q]? = w.heap[q]?) := Lib.hid (fun wa w5 g1 g2 =>
  ⟨(g2.2 b (Nat.lt_of_lt_of_le hbl g1.size) hbk).trans (g1.block b hbl), (g2.2 q (Nat.lt_of_lt_of_le hql g1.size) hqk).trans (g1.block q hql)⟩)
 have HC9 := Lib.hid hcell
 have HF9 := Lib.hid hfro
 have HB : Hid (Blk w B 34 #[.string (txt x.1.name), .int .i64 (x.1.kind : Int), .int .i64 (x.1.typ : Int), .int .u64 (x.1.low : Int), .int .u64 (x.1.high : Int), .slice Bn x.1.names.length m, .bool x.1.must, .int .i64 (x.1.most : Int), .slice (some ⟨b, 0, none⟩) x.2.len c]) := Lib.hid box
 have HP := Lib.hid hp
 have HQ := Lib.hid hq
 have HW : Hid (Below w.heap.size w w.drew) := Lib.hid (Below.refl _ _).drew
 have HBL := Lib.hid hbl
 have HNE := Lib.hid hqb
 have HN2 := Lib.hid (And.intro hpB hqB)
 have i1 : (0 : Int) ≤ (i : Int) := by omega
 have i2 : (i : Int) < (x.2.len : Int) := by omega
 clear hP hp hq hch hRp hRq hfi hi hok hkl hspn hFl h1 hD hk ht nd rlt hb t1 tk t3 kD k8 kU kl hFk hBl hRl nd' rlt' ndk hpB hqB hqb hqk hbk hbase hbl hql hcell hfro ho box
 generalize runC k y = y' at HCH HEND ⊢
 go_enter Tryd.func64, Tryd.ntmps64
 go_wp2_with fail
 refine wp_region_noPanic ?_
 refine wp_region_held_drew (S := fun _ => True) (by kernel_rfl) trivial (fun hS => ?_)
 refine wpAnyH_take (i := 0) (oi := ?o_0) (v := ?v_0) ?i_0 (by kernel_rfl) (by kernel_rfl) (by kernel_rfl) (fun _ _ _ h => h) (Or.inl ⟨?g_0, ?y_0⟩) hS ?_
 case i_0 => simp only [layG]; rfl
 case g_0 => rfl
 case y_0 => (intro w hSw; (go_simp <;> with_reducible rfl))
 (try simp only [Act.put, layS])
 refine wpAnyH_take (i := 1) (oi := ?o_1) (v := ?v_1) ?i_1 (by kernel_rfl) (by kernel_rfl) (by kernel_rfl) (fun _ _ _ h => h) (Or.inl ⟨?g_1, ?y_1⟩) hS ?_
 case i_1 => simp only [layG]; rfl
 case g_1 => rfl
 case y_1 => (intro w hSw; (go_simp <;> with_reducible rfl))
 (try simp only [Act.put, layS])
 refine wpAnyH_take (i := 2) (oi := ?o_2) (v := ?v_2) ?i_2 (by kernel_rfl) (by kernel_rfl) (by kernel_rfl) (fun _ _ _ h => h) (Or.inl ⟨?g_2, ?y_2⟩) hS ?_
 case i_2 => simp only [layG]; rfl
 case g_2 => rfl
 case y_2 => (intro w hSw; (go_simp <;> with_reducible rfl))
 (try simp only [Act.put, layS])
 refine held_more (S' := fun w' => Blk w' B 34 #[.string (txt x.1.name), .int .i64 (x.1.kind : Int), .int .i64 (x.1.typ : Int), .int .u64 (x.1.low : Int), .int .u64 (x.1.high : Int), .slice Bn x.1.names.length m, .bool x.1.must, .int .i64 (x.1.most : Int), .slice (some ⟨b, 0, none⟩) x.2.len c] ∧ Blk w' p 9 #[.string (txt n)]) (fun _ _ => trivial) _ _ _ _ ?_
 replace hS : Blk w.drew B 34 #[.string (txt x.1.name), .int .i64 (x.1.kind : Int), .int .i64 (x.1.typ : Int), .int .u64 (x.1.low : Int), .int .u64 (x.1.high : Int), .slice Bn x.1.names.length m, .bool x.1.must, .int .i64 (x.1.most : Int), .slice (some ⟨b, 0, none⟩) x.2.len c] ∧ Blk w.drew p 9 #[.string (txt n)] := And.intro HB.out HP.out
 refine wpAnyH_take (i := 3) (oi := ?o_3) (v := ?v_3) ?i_3 (by kernel_rfl) (by kernel_rfl) (by kernel_rfl) (fun _ _ _ h => h) (Or.inl ⟨?g_3, ?y_3⟩) hS ?_
 case i_3 => simp only [layG]; rfl
 case g_3 => rfl
 case y_3 => (intro w hSw; have hc := (hSw.1.cell 8).trans rfl; (go_simp <;> with_reducible rfl))
 (try simp only [Act.put, layS])
 refine wpAnyH_take (i := 4) (oi := ?o_4) (v := ?v_4) ?i_4 (by kernel_rfl) (by kernel_rfl) (by kernel_rfl) (fun _ _ _ h => h) (Or.inl ⟨?g_4, ?y_4⟩) hS ?_
 case i_4 => simp only [layG]; rfl
 case g_4 => rfl
 case y_4 => (intro w hSw; (go_simp <;> with_reducible rfl))
 (try simp only [Act.put, layS])
 refine wpAnyH_take (i := 5) (oi := ?o_5) (v := ?v_5) ?i_5 (by kernel_rfl) (by kernel_rfl) (by kernel_rfl) (fun _ _ _ h => h) (Or.inl ⟨?g_5, ?y_5⟩) hS ?_
 case i_5 => simp only [layG]; rfl
 case g_5 => rfl
 case y_5 => (intro w hSw; (go_simp <;> with_reducible rfl))
 (try simp only [Act.put, layS])
 refine wpAnyH_take (i := 6) (oi := ?o_6) (v := ?v_6) ?i_6 (by kernel_rfl) (by kernel_rfl) (by kernel_rfl) (fun _ _ _ h => h) (Or.inl ⟨?g_6, ?y_6⟩) hS ?_
 case i_6 => simp only [layG]; rfl
 case g_6 => rfl
 case y_6 => (intro w hSw; have c0 := (hSw.1.cell 0).trans rfl; have c1 := (hSw.1.cell 1).trans rfl; have c2 := (hSw.1.cell 2).trans rfl; have c3 := (hSw.1.cell 3).trans rfl; have c4 := (hSw.1.cell 4).trans rfl; have c5 := (hSw.1.cell 5).trans rfl; have c6 := (hSw.1.cell 6).trans rfl; have c7 := (hSw.1.cell 7).trans rfl; have c8 := (hSw.1.cell 8).trans rfl; (go_simp <;> with_reducible rfl))
 (try simp only [Act.put, layS])
 refine wpAnyH_take (i := 7) (oi := ?o_7) (v := ?v_7) ?i_7 (by kernel_rfl) (by kernel_rfl) (by kernel_rfl) (fun _ _ _ h => h) (Or.inl ⟨?g_7, ?y_7⟩) hS ?_
 case i_7 => simp only [layG]; rfl
 case g_7 => rfl
 case y_7 => (intro w hSw; have hc := (hSw.2.cell 0).trans rfl; (go_simp <;> with_reducible rfl))
 (try simp only [Act.put, layS])
 refine wpAnyH_ready (rs := [8]) (by kernel_rfl) (by simp) ?_
 refine (AllReadyH.cons (o := ?or_8) ?ir_8 (fun K hK => ?str_8) AllReadyH.nil)
 case ir_8 => simp only [layG]; rfl
 rw [if_pos (by rfl)]
 go_simp
 refine (HFI.out _ HW.out).out.mono ?_
 rintro r w8 ⟨rfl, hb8⟩
 go_wp2_with fail
 refine hK.out _ _ ?sr_8 (fun hS => ?_)
 case sr_8 => (exact ⟨hS.1.below hb8 hS.1.lt, hS.2.below hb8 hS.2.lt⟩)
 clear hK K
 (try simp only [Act.put, layS])
 have HW8 := Lib.hid (HW.out.trans (hb8.mono HW.out.size))
 clear hb8
 refine wpAnyH_take (i := 9) (oi := ?o_9) (v := ?v_9) ?i_9 (by kernel_rfl) (by kernel_rfl) (by kernel_rfl) (fun _ _ _ h => h) (Or.inl ⟨?g_9, ?y_9⟩) hS ?_
 case i_9 => simp only [layG]; rfl
 case g_9 => rfl
 case y_9 => (intro w hSw; (go_simp <;> with_reducible rfl))
 (try simp only [Act.put, layS])
 refine wpAnyH_take (i := 10) (oi := ?o_a) (v := ?v_a) ?i_a (by kernel_rfl) (by kernel_rfl) (by kernel_rfl) (fun _ _ _ h => h) (Or.inl ⟨?g_a, ?y_a⟩) hS ?_
 case i_a => simp only [layG]; rfl
 case g_a => rfl
 case y_a => (intro w hSw; (go_simp <;> with_reducible rfl))
 (try simp only [Act.put, layS])
 refine wpAnyH_done (by kernel_rfl) ?_ _
 refine NoPanic.normal ?_
 go_wp2_with fail
 have HWD : Hid (Below w.heap.size w w8.drew) := Lib.hid HW8.out.drew
 have HQ8 : Hid (Blk w8.drew q 103 #[.slice A' k.len c']) := Lib.hid (HQ.out.below HWD.out HQ.out.lt)
 refine wp_region_noPanic ?_
 refine wp_region_held_drew (S := fun _ => True) (by kernel_rfl) trivial (fun hS => ?_)
 refine wpAnyH_take (i := 0) (oi := ?o_b) (v := ?v_b) ?i_b (by kernel_rfl) (by kernel_rfl) (by kernel_rfl) (fun _ _ _ h => h) (Or.inl ⟨?g_b, ?y_b⟩) hS ?_
 case i_b => simp only [layG]; rfl
 case g_b => rfl
 case y_b => (intro w hSw; (go_simp <;> with_reducible rfl))
 (try simp only [Act.put, layS])
 refine wpAnyH_take (i := 1) (oi := ?o_c) (v := ?v_c) ?i_c (by kernel_rfl) (by kernel_rfl) (by kernel_rfl) (fun _ _ _ h => h) (Or.inl ⟨?g_c, ?y_c⟩) hS ?_
 case i_c => simp only [layG]; rfl
 case g_c => rfl
 case y_c => (intro w hSw; (go_simp <;> with_reducible rfl))
 (try simp only [Act.put, layS])
 refine wpAnyH_take (i := 2) (oi := ?o_d) (v := ?v_d) ?i_d (by kernel_rfl) (by kernel_rfl) (by kernel_rfl) (fun _ _ _ h => h) (Or.inl ⟨?g_d, ?y_d⟩) hS ?_
 case i_d => simp only [layG]; rfl
 case g_d => rfl
 case y_d => (intro w hSw; (go_simp <;> with_reducible rfl))
 (try simp only [Act.put, layS])
 refine held_more (S' := fun w' => Blk w' q 103 #[.slice A' k.len c']) (fun _ _ => trivial) _ _ _ _ ?_
 replace hS := HQ8.out
 refine wpAnyH_take (i := 4) (oi := ?o_e) (v := ?v_e) ?i_e (by kernel_rfl) (by kernel_rfl) (by kernel_rfl) (fun _ _ _ h => h) (Or.inl ⟨?g_e, ?y_e⟩) hS ?_
 case i_e => simp only [layG]; rfl
 case g_e => rfl
 case y_e => (intro w hSw; have hc := (hSw.cell 0).trans rfl; (go_simp <;> with_reducible rfl))
 (try simp only [Act.put, layS])
 refine wpAnyH_ready (rs := [3]) (by kernel_rfl) (by simp) ?_
 refine (AllReadyH.cons (o := ?or_f) ?ir_f (fun K hK => ?str_f) AllReadyH.nil)
 case ir_f => simp only [layG]; rfl
 rw [if_pos (by rfl)]
 have c0 : w8.drew.cell? ⟨b, i * 9, none⟩ = some y0 := HC9.out _ 0 _ (HWD.out.block b HBL.out) rfl
 have c1 : w8.drew.cell? ⟨b, i * 9 + 1, none⟩ = some y1 := HC9.out _ 1 _ (HWD.out.block b HBL.out) rfl
 have c2 : w8.drew.cell? ⟨b, i * 9 + 2, none⟩ = some y2 := HC9.out _ 2 _ (HWD.out.block b HBL.out) rfl
 have c3 : w8.drew.cell? ⟨b, i * 9 + 3, none⟩ = some y3 := HC9.out _ 3 _ (HWD.out.block b HBL.out) rfl
 have c4 : w8.drew.cell? ⟨b, i * 9 + 4, none⟩ = some y4 := HC9.out _ 4 _ (HWD.out.block b HBL.out) rfl
 have c5 : w8.drew.cell? ⟨b, i * 9 + 5, none⟩ = some y5 := HC9.out _ 5 _ (HWD.out.block b HBL.out) rfl
 have c6 : w8.drew.cell? ⟨b, i * 9 + 6, none⟩ = some y6 := HC9.out _ 6 _ (HWD.out.block b HBL.out) rfl
 have c7 : w8.drew.cell? ⟨b, i * 9 + 7, none⟩ = some y7 := HC9.out _ 7 _ (HWD.out.block b HBL.out) rfl
 have c8 : w8.drew.cell? ⟨b, i * 9 + 8, none⟩ = some y8 := HC9.out _ 8 _ (HWD.out.block b HBL.out) rfl
 go_simp
 refine hK.out _ _ ?sr_f (fun hS => ?_)
 case sr_f => (exact hS)
 clear hK K
 (try simp only [Act.put, layS])
 clear c0 c1 c2 c3 c4 c5 c6 c7 c8
 refine wpAnyH_ready (rs := [5]) (by kernel_rfl) (by simp) ?_
 refine (AllReadyH.cons (o := ?or_g) ?ir_g (fun K hK => ?str_g) AllReadyH.nil)
 case ir_g => simp only [layG]; rfl
 rw [if_pos (by rfl)]
 go_simp
 refine (HCH.out _ HWD.out).out.mono ?_
 rintro r w5 ⟨cs5, F5, rfl, g2, g3, g4, g5⟩
 obtain ⟨Bz, mz, Az, cz, dz, rfl, -, -, -⟩ := g2.spn.shape
 go_wp2_with fail
 refine hK.out _ _ ?sr_g (fun hS => ?_)
 case sr_g => (exact HQ.out.same (HKB.out _ _ HWD.out g5).2)
 clear hK K
 (try simp only [Act.put, layS])
 have G2 := Lib.hid g2
 have G3 := Lib.hid g3
 have G4 := Lib.hid g4
 have G5 := Lib.hid g5
 clear g2 g3 g4 g5
 refine wpAnyH_take (i := 6) (oi := ?o_h) (v := ?v_h) ?i_h (by kernel_rfl) (by kernel_rfl) (by kernel_rfl) (fun _ _ _ h => h) (Or.inl ⟨?g_h, ?y_h⟩) hS ?_
 case i_h => simp only [layG]; rfl
 case g_h => rfl
 case y_h => (intro w hSw; (go_simp <;> with_reducible rfl))
 (try simp only [Act.put, layS])
 refine wpAnyH_ready (rs := [7]) (by kernel_rfl) (by simp) ?_
 refine (AllReadyH.cons (o := ?or_i) ?ir_i (fun K hK => ?str_i) AllReadyH.nil)
 case ir_i => simp only [layG]; rfl
 rw [if_pos (by rfl)]
 have c0 : w5.cell? ⟨b, i * 9, none⟩ = some y0 := HC9.out _ 0 _ (HKB.out _ _ HWD.out G5.out).1 rfl
 have c1 : w5.cell? ⟨b, i * 9 + 1, none⟩ = some y1 := HC9.out _ 1 _ (HKB.out _ _ HWD.out G5.out).1 rfl
 have c2 : w5.cell? ⟨b, i * 9 + 2, none⟩ = some y2 := HC9.out _ 2 _ (HKB.out _ _ HWD.out G5.out).1 rfl
 have c3 : w5.cell? ⟨b, i * 9 + 3, none⟩ = some y3 := HC9.out _ 3 _ (HKB.out _ _ HWD.out G5.out).1 rfl
 have c4 : w5.cell? ⟨b, i * 9 + 4, none⟩ = some y4 := HC9.out _ 4 _ (HKB.out _ _ HWD.out G5.out).1 rfl
 have c5 : w5.cell? ⟨b, i * 9 + 5, none⟩ = some y5 := HC9.out _ 5 _ (HKB.out _ _ HWD.out G5.out).1 rfl
 have c6 : w5.cell? ⟨b, i * 9 + 6, none⟩ = some y6 := HC9.out _ 6 _ (HKB.out _ _ HWD.out G5.out).1 rfl
 have c7 : w5.cell? ⟨b, i * 9 + 7, none⟩ = some y7 := HC9.out _ 7 _ (HKB.out _ _ HWD.out G5.out).1 rfl
 have c8 : w5.cell? ⟨b, i * 9 + 8, none⟩ = some y8 := HC9.out _ 8 _ (HKB.out _ _ HWD.out G5.out).1 rfl
 have f0 : w5.frozen? ⟨b, i * 9, none⟩ = false := HF9.out _ 0 (HKB.out _ _ HWD.out G5.out).1
 have f1 : w5.frozen? ⟨b, i * 9 + 1, none⟩ = false := HF9.out _ 1 (HKB.out _ _ HWD.out G5.out).1
 have f2 : w5.frozen? ⟨b, i * 9 + 2, none⟩ = false := HF9.out _ 2 (HKB.out _ _ HWD.out G5.out).1
 have f3 : w5.frozen? ⟨b, i * 9 + 3, none⟩ = false := HF9.out _ 3 (HKB.out _ _ HWD.out G5.out).1
 have f4 : w5.frozen? ⟨b, i * 9 + 4, none⟩ = false := HF9.out _ 4 (HKB.out _ _ HWD.out G5.out).1
 have f5 : w5.frozen? ⟨b, i * 9 + 5, none⟩ = false := HF9.out _ 5 (HKB.out _ _ HWD.out G5.out).1
 have f6 : w5.frozen? ⟨b, i * 9 + 6, none⟩ = false := HF9.out _ 6 (HKB.out _ _ HWD.out G5.out).1
 have f7 : w5.frozen? ⟨b, i * 9 + 7, none⟩ = false := HF9.out _ 7 (HKB.out _ _ HWD.out G5.out).1
 have f8 : w5.frozen? ⟨b, i * 9 + 8, none⟩ = false := HF9.out _ 8 (HKB.out _ _ HWD.out G5.out).1
 go_simp
 refine hK.out _ _ ?sr_i (fun hS => ?_)
 case sr_i => (exact Blk.same hS (set9o_other HNE.out))
 clear hK K
 (try simp only [Act.put, layS])
 clear c0 c1 c2 c3 c4 c5 c6 c7 c8 f0 f1 f2 f3 f4 f5 f6 f7 f8
 refine wpAnyH_done (by kernel_rfl) ?_ _
 refine NoPanic.normal ?_
 go_end0
 exact (HEND.out _ _ _ _ _ _ _ _ _ _ _ _ HWD.out G2.out G3.out G4.out G5.out).out
end Go.Proofs.YtikmilcdibldhaaDoor
