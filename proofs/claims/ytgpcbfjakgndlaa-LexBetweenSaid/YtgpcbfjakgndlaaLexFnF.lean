/-
  Package lex: token of the reader. No condition but those of each theorem.
-/
import Derived.Test.YtgpcbfjakgndlaaLexFnE
import Derived.Test.YtgpcbfjakgndlaaDrawn
import Derived.Deep.RegionWith
namespace Go.Proofs.Ytgpcbfjakgndlaa
open Go.RowKit
set_option linter.unusedSimpArgs false

/-- A token as a value; a box for it. -/
def tkV (t : Tok) : Value := .agg #[.int .i64 (t.k : Int), .string (txt t.t), .int .i64 (t.p.1 : Int), .int .i64 (t.p.2 : Int)]
def TkB (w : World) (b : Nat) (t : Tok) : Prop := Blk w b 37 #[.int .i64 (t.k : Int), .string (txt t.t), .int .i64 (t.p.1 : Int), .int .i64 (t.p.2 : Int)]
theorem TkB.cells {w : World} {b : Nat} {t : Tok} (h : TkB w b t) : w.cell? ⟨b, 0, none⟩ = some (.int .i64 (t.k : Int)) ∧ w.cell? ⟨b, 1, none⟩ = some (.string (txt t.t)) ∧ w.cell? ⟨b, 2, none⟩ = some (.int .i64 (t.p.1 : Int)) ∧ w.cell? ⟨b, 3, none⟩ = some (.int .i64 (t.p.2 : Int)) ∧
    w.frozen? ⟨b, 0, none⟩ = false ∧ w.frozen? ⟨b, 1, none⟩ = false ∧ w.frozen? ⟨b, 2, none⟩ = false ∧ w.frozen? ⟨b, 3, none⟩ = false := ⟨h.cell 0, h.cell 1, h.cell 2, h.cell 3, h.frozen 0, h.frozen 1, h.frozen 2, h.frozen 3⟩
def setT (w : World) (b : Nat) (t : Tok) : World := (((w.setCell ⟨b, 0, none⟩ (.int .i64 (t.k : Int))).setCell ⟨b, 1, none⟩ (.string (txt t.t))).setCell ⟨b, 2, none⟩ (.int .i64 (t.p.1 : Int))).setCell ⟨b, 3, none⟩ (.int .i64 (t.p.2 : Int))
theorem TkB.set {w : World} {b : Nat} {u t : Tok} (h : TkB w b u) : TkB (setT w b t) b t := (((Blk.set_ h 0 (.int .i64 (t.k : Int))).set_ 1 (.string (txt t.t))).set_ 2 (.int .i64 (t.p.1 : Int))).set_ 3 (.int .i64 (t.p.2 : Int))
theorem setT_below {B : Nat} {w : World} {b : Nat} {t : Tok} (h : B ≤ b) : Below B w (setT w b t) :=
  ((((Below.refl B w).setCell (p := ⟨b, 0, none⟩) h _).setCell (p := ⟨b, 1, none⟩) h _).setCell (p := ⟨b, 2, none⟩) h _).setCell (p := ⟨b, 3, none⟩) h _
theorem resTok {tmps : Array Value} {W : World} {b : Nat} {t : Tok} (h2 : tmps.getD 2 undef = .pointer (some ⟨b, 0, none⟩)) (q : TkB W b t) :
    (results Try.f29 tmps).run Try.prog W = .ok (tkV t) W := by
  obtain ⟨c0, c1, c2, c3, -⟩ := q.cells
  have g2 : tmps[2]?.getD undef = .pointer (some ⟨b, 0, none⟩) := by simpa using h2
  simp [results, Try.f29, go_sem, g2, c0, c1, c2, c3, tkV]
def tokX (p : Ps) (l : List It) : St := match l with
  | [] => .go (some ⟨0, [], p⟩) [] p
  | x :: r => step p x r
/-- What token leaves. -/
def TokP (B g : Nat) (p : Ps) (l : List It) (w : World) (r : Ending) (w' : World) : Prop :=
  w.grownBy w' (some g) ∧ match tokX p l with
    | .bad q => r = .panicked (prb q)
    | .go o l' q => ∃ t, o = some t ∧ r = .returned (tkV t) ∧ Rdr w' B g q l'
theorem tokP_go {B g : Nat} {p q : Ps} {l l' : List It} {t : Tok} {w w' : World} (h : tokX p l = .go (some t) l' q) (h1 : w.grownBy w' (some g)) (h2 : Rdr w' B g q l') : TokP B g p l w (.returned (tkV t)) w' := by
  unfold TokP
  rw [h]
  exact ⟨h1, t, rfl, rfl, h2⟩
theorem tokP_bad {B g : Nat} {p q : Ps} {l : List It} {w w' : World} (h : tokX p l = .bad q) (h1 : w.grownBy w' (some g)) : TokP B g p l w (.panicked (prb q)) w' := by
  unfold TokP
  rw [h]
  exact ⟨h1, rfl⟩
/-- What is not of a word, a blank, a comment: the token, or the fault. -/
theorem step_nw {p : Ps} {x : It} {r : List It} (h1 : blankB x.1 = false) (h2 : x.1 ≠ [35]) (h3 : letterB x.1 = false) : step p x r =
    if x.1 = [123] then .go (some ⟨3, [], p⟩) r (adv p x)
    else if x.1 = [125] then .go (some ⟨4, [], p⟩) r (adv p x)
    else if x.1 = [59] then .go (some ⟨5, [], p⟩) r (adv p x)
    else if x.1 = [34] then match str (adv p x) r with
      | .inl q => .bad q
      | .inr (t, r', q) => .go (some ⟨2, t, p⟩) r' q
    else .bad p := by
  unfold step
  rw [if_neg (by rw [h1]; decide), if_neg h2]
  simp only [h3]
  rfl
theorem step_word {p : Ps} {x : It} {r : List It} (h : letterB x.1 = true) : step p x r = .go (some ⟨1, ((x :: r).takeWhile ltB).flatMap (·.1), p⟩) (cmX ltB p (x :: r)).2 (cmX ltB p (x :: r)).1 := by
  have hx : ltB x = true := h
  have hne : ∀ c : UInt8, letterB [c] = false → x.1 ≠ [c] := fun c hc e => by rw [e, hc] at h; cases h
  have hb : ¬ blankB x.1 = true := by
    unfold blankB
    simp [hne 32 (by decide), hne 9 (by decide), hne 13 (by decide), hne 10 (by decide)]
  rw [cmX_go hx, List.takeWhile_cons, if_pos hx, List.flatMap_cons]
  unfold step
  rw [if_neg hb, if_neg (hne 35 (by decide)), if_neg (hne 123 (by decide)), if_neg (hne 125 (by decide)), if_neg (hne 59 (by decide)), if_neg (hne 34 (by decide)), if_pos h]
  rfl
/-- What stands ahead of token's own work: the box for the result, the first character in another. -/
theorem tok_boxes {w w1 : World} {B g : Nat} {p : Ps} {l : List It} {n : Int} (hlt : g < B ∧ B ≤ w.heap.size) (h0 : Rdr (w.alloc (.cells #[.int .i64 0, .string ⟨#[]⟩, .int .i64 0, .int .i64 0] 37)) B g p l) (hB1 : Below (w.alloc (.cells #[.int .i64 0, .string ⟨#[]⟩, .int .i64 0, .int .i64 0] 37)).heap.size (w.alloc (.cells #[.int .i64 0, .string ⟨#[]⟩, .int .i64 0, .int .i64 0] 37)) w1) :
    Rdr (w1.alloc (.cells #[.int .i32 n, .int .i64 (p.1 : Int), .int .i64 (p.2 : Int)] 75)) B g p l ∧ TkB (w1.alloc (.cells #[.int .i32 n, .int .i64 (p.1 : Int), .int .i64 (p.2 : Int)] 75)) w.heap.size ⟨0, [], (0, 0)⟩ ∧ ChB (w1.alloc (.cells #[.int .i32 n, .int .i64 (p.1 : Int), .int .i64 (p.2 : Int)] 75)) w1.heap.size n p ∧ w.grownBy (w1.alloc (.cells #[.int .i32 n, .int .i64 (p.1 : Int), .int .i64 (p.2 : Int)] 75)) (some g) ∧ w.heap.size < w1.heap.size ∧ w1.heap.size < (w1.alloc (.cells #[.int .i32 n, .int .i64 (p.1 : Int), .int .i64 (p.2 : Int)] 75)).heap.size := by
  have q0 : TkB (w.alloc (.cells #[.int .i64 0, .string ⟨#[]⟩, .int .i64 0, .int .i64 0] 37)) w.heap.size ⟨0, [], (0, 0)⟩ := Blk.new w 37 _
  have q1 : TkB w1 w.heap.size ⟨0, [], (0, 0)⟩ := Blk.below q0 hB1 (Blk.lt q0)
  have hl1 : w.heap.size < w1.heap.size := Blk.lt q1
  have hbA := (Below.refl w1.heap.size w1).alloc (Nat.le_refl _) (.cells #[.int .i32 n, .int .i64 (p.1 : Int), .int .i64 (p.2 : Int)] 75)
  have hb0 := (Below.refl w.heap.size w).alloc (Nat.le_refl _) (.cells #[.int .i64 0, .string ⟨#[]⟩, .int .i64 0, .int .i64 0] 37)
  have hs0 := hb0.size
  refine ⟨(h0.below hB1 (by omega)).below hbA (by omega), Blk.below q1 hbA hl1, Blk.new w1 75 _, ?_, hl1, by simp⟩
  exact gr_of ((hb0.trans (hB1.mono hs0)).trans (hbA.mono (by omega))) (Nat.le_refl _) _

set_option maxRecDepth 100000 in
set_option maxHeartbeats 600000 in
theorem token_word (B g : Nat) (p : Ps) (x : It) (r : List It) (w : World) (h : Rdr w B g p (x :: r)) (hl : r.length < 100000) (hw : letterB x.1 = true) :
    Calls Try.prog 29 #[.pointer (some ⟨g, 0, none⟩)] w (TokP B g p (x :: r) w) := by
  have hlt := h.lt
  have hx := h.ok x List.mem_cons_self
  obtain ⟨n, hn⟩ : ∃ n, n = hdc (x :: r) := ⟨_, rfl⟩
  have hb0 := (Below.refl w.heap.size w).alloc (Nat.le_refl _) (.cells #[.int .i64 0, .string ⟨#[]⟩, .int .i64 0, .int .i64 0] 37)
  have hR0 := h.below hb0 hlt.2
  have PK := Lib.hid (peekW B g p (x :: r) n hn _ hR0)
  have IW : ∀ W, Hid (Calls Try.prog 26 #[.int .i32 n] W fun r w' => r = .returned (.bool true) ∧ W = w') := fun W => Lib.hid (by
    have e : wordB n = true := by rw [hn]; exact (wordB_wc hx).trans hw
    rw [← e]; exact inWord_any n W)
  obtain ⟨T, hT⟩ : ∃ T, T = ((x :: r).takeWhile ltB).flatMap (·.1) := ⟨_, rfl⟩
  obtain ⟨q, l2, hq⟩ : ∃ q l2, (q, l2) = cmX ltB p (x :: r) := ⟨_, _, rfl⟩
  have HE : Hid (tokX p (x :: r) = .go (some ⟨1, T, p⟩) l2 q) := Lib.hid (by rw [hT]; show step p x r = _; rw [step_word hw, ← hq])
  have HWD : Hid (∀ W, Rdr W B g p (x :: r) → Calls Try.prog 38 #[.pointer (some ⟨g, 0, none⟩)] W (fun r' w' => r' = .returned (.string (txt T)) ∧ Rdr w' B g q l2 ∧ W.grownBy w' (some g))) := Lib.hid (fun W hR => by
    have hh := word_any B g p (x :: r) W hR (by simp; omega)
    unfold WordP at hh
    rw [← hT, ← hq] at hh
    exact hh)
  clear h hn hx hw hb0 hT hq
  go_enter Try.func29, Try.ntmps29
  go_wp2_with fail
  refine PK.out.mono ?_
  rintro r' w1 ⟨rfl, hB1⟩
  obtain ⟨hR, hT, hC, hG, hl1, hl2⟩ := tok_boxes (n := n) hlt hR0 hB1
  clear hR0 hB1
  have WD := Lib.hid (HWD.out _ (hR.below (Below.refl B _).drew (Nat.le_refl _)))
  obtain ⟨-, k0, k1, k2, -⟩ := hC.cells
  have HCB := Lib.hid hC
  have HTB := Lib.hid hT
  have HG := Lib.hid hG
  clear hR hC hT hG
  go_wp2_with fail
  refine (IW _).out.mono ?_
  rintro r' w2 ⟨rfl, rfl⟩
  generalize hWW : w1.alloc (.cells #[.int .i32 n, .int .i64 (p.1 : Int), .int .i64 (p.2 : Int)] 75) = W at *
  clear hWW
  go_wp2_with fail
  refine wp_region_noPanic ?_
  refine wp_region_held_drew (S := fun _ => True) (by kernel_rfl) trivial (fun hS => ?_)
  refine wpAnyH_take (i := 0) (oi := ?o1_0_1) (v := ?v1_0_1) ?i1_0_1 (by kernel_rfl) (by kernel_rfl) (by kernel_rfl) (fun _ _ _ h => h) (Or.inl ⟨?g1_0_1, ?y1_0_1⟩) hS ?_
  case i1_0_1 => simp only [List.getElem?_toArray, List.getElem?_cons_succ, List.getElem?_cons_zero]; rfl
  case g1_0_1 => rfl
  case y1_0_1 => (intro w hSw; (go_simp <;> with_reducible rfl))
  (try simp only [Act.put, List.setIfInBounds_toArray, List.set_cons_zero, List.set_cons_succ])
  refine wpAnyH_take (i := 2) (oi := ?o1_2_2) (v := ?v1_2_2) ?i1_2_2 (by kernel_rfl) (by kernel_rfl) (by kernel_rfl) (fun _ _ _ h => h) (Or.inl ⟨?g1_2_2, ?y1_2_2⟩) hS ?_
  case i1_2_2 => simp only [List.getElem?_toArray, List.getElem?_cons_succ, List.getElem?_cons_zero]; rfl
  case g1_2_2 => rfl
  case y1_2_2 => (intro w hSw; (go_simp <;> with_reducible rfl))
  (try simp only [Act.put, List.setIfInBounds_toArray, List.set_cons_zero, List.set_cons_succ])
  refine held_more (S' := fun w' => ChB w' w1.heap.size n p) (fun _ _ => trivial) _ _ _ _ ?_
  replace hS : ChB W.drew w1.heap.size n p := HCB.out
  refine wpAnyH_take (i := 3) (oi := ?o1_3_3) (v := ?v1_3_3) ?i1_3_3 (by kernel_rfl) (by kernel_rfl) (by kernel_rfl) (fun _ _ _ h => h) (Or.inl ⟨?g1_3_3, ?y1_3_3⟩) hS ?_
  case i1_3_3 => simp only [List.getElem?_toArray, List.getElem?_cons_succ, List.getElem?_cons_zero]; rfl
  case g1_3_3 => rfl
  case y1_3_3 => (intro w hSw; have hc1 := (ChB.cells hSw).2.2.1; have hc2 := (ChB.cells hSw).2.2.2.1; (go_simp <;> with_reducible rfl))
  (try simp only [Act.put, List.setIfInBounds_toArray, List.set_cons_zero, List.set_cons_succ])
  refine wpAnyH_ready (rs := [1]) (by kernel_rfl) (by simp) ?_
  refine (AllReadyH.cons (o := ?o1_4_1) ?i1_4_1 (fun K hK => ?st1_4_1) AllReadyH.nil)
  case i1_4_1 => simp only [List.getElem?_toArray, List.getElem?_cons_succ, List.getElem?_cons_zero]; rfl
  rw [if_pos (by rfl)]
  go_simp
  refine WD.out.mono ?_
  rintro r' w3 ⟨rfl, hR3, hg3⟩
  refine hK.out _ _ ?s1_4_1 (fun hS => ?_)
  case s1_4_1 => (exact Blk.grown hS hg3 (by simp; omega))
  clear hK K
  (try simp only [Act.put, List.setIfInBounds_toArray, List.set_cons_zero, List.set_cons_succ])
  have hT3 : TkB w3 w.heap.size ⟨0, [], (0, 0)⟩ := Blk.grown (w := W.drew) HTB.out hg3 (by simp; omega)
  obtain ⟨t0, t1, t2, t3, f0, f1, f2, f3⟩ := hT3.cells
  refine wpAnyH_take (i := 4) (oi := ?o1_4_5) (v := ?v1_4_5) ?i1_4_5 (by kernel_rfl) (by kernel_rfl) (by kernel_rfl) (fun _ _ _ h => h) (Or.inl ⟨?g1_4_5, ?y1_4_5⟩) hS ?_
  case i1_4_5 => simp only [List.getElem?_toArray, List.getElem?_cons_succ, List.getElem?_cons_zero]; rfl
  case g1_4_5 => rfl
  case y1_4_5 => (intro w hSw; (go_simp <;> with_reducible rfl))
  (try simp only [Act.put, List.setIfInBounds_toArray, List.set_cons_zero, List.set_cons_succ])
  refine wpAnyH_ready (rs := [5]) (by kernel_rfl) (by simp) ?_
  refine (AllReadyH.cons (o := ?o1_6_5) ?i1_6_5 (fun K hK => ?st1_6_5) AllReadyH.nil)
  case i1_6_5 => simp only [List.getElem?_toArray, List.getElem?_cons_succ, List.getElem?_cons_zero]; rfl
  rw [if_pos (by rfl)]
  go_simp
  refine hK.out _ _ ?s1_6_5 (fun hS => ?_)
  case s1_6_5 => (exact Blk.far (Blk.far (Blk.far (Blk.far hS (by simp; omega) _) (by simp; omega) _) (by simp; omega) _) (by simp; omega) _)
  clear hK K
  (try simp only [Act.put, List.setIfInBounds_toArray, List.set_cons_zero, List.set_cons_succ])
  refine wpAnyH_done (by kernel_rfl) ?_ _
  refine NoPanic.normal ?_
  have HT4 := Lib.hid (hT3.set (t := ⟨1, T, p⟩))
  have HR4 := Lib.hid (hR3.below (setT_below (t := ⟨1, T, p⟩) (Nat.le_refl w.heap.size)) hlt.2)
  have hgd : w.grownBy W.drew (some g) := gr_below HG.out (Below.refl w.heap.size W).drew (Nat.le_refl _)
  have HG4 := Lib.hid (gr_below (gr_trans hgd hg3) (setT_below (w := w3) (t := ⟨1, T, p⟩) (Nat.le_refl w.heap.size)) (Nat.le_refl _))
  clear hgd hg3 hR3 hT3
  go_wp2
  refine bodyPost_ret (resTok rfl HT4.out) rfl ?_
  exact tokP_go HE.out HG4.out HR4.out
set_option maxRecDepth 100000 in
set_option maxHeartbeats 600000 in
theorem token_end (B g : Nat) (p : Ps) (w : World) (h : Rdr w B g p []) :
    Calls Try.prog 29 #[.pointer (some ⟨g, 0, none⟩)] w (TokP B g p [] w) := by
  have hlt := h.lt
  have hb0 := (Below.refl w.heap.size w).alloc (Nat.le_refl _) (.cells #[.int .i64 0, .string ⟨#[]⟩, .int .i64 0, .int .i64 0] 37)
  have hR0 := h.below hb0 hlt.2
  have PK := Lib.hid (peekW B g p [] (-1) rfl _ hR0)
  have IW : ∀ W, Hid (Calls Try.prog 26 #[.int .i32 (-1)] W fun r w' => r = .returned (.bool false) ∧ W = w') := fun W => Lib.hid (inWord_any (-1) W)
  clear h hb0
  go_enter Try.func29, Try.ntmps29
  go_wp2_with fail
  refine PK.out.mono ?_
  rintro r' w1 ⟨rfl, hB1⟩
  obtain ⟨hR, hT, hC, hG, hl1, hl2⟩ := tok_boxes (n := -1) hlt hR0 hB1
  clear hR0 hB1
  have TK := Lib.hid (takeW B g p [] (-1) rfl _ hR)
  have HCB := Lib.hid hC
  have HTB := Lib.hid hT
  have HG := Lib.hid hG
  clear hR hC hT hG
  go_wp2_with fail
  refine (IW _).out.mono ?_
  rintro r' w2 ⟨rfl, rfl⟩
  go_wp2_with fail
  refine TK.out.mono ?_
  rintro r' w3 ⟨rfl, hR3, hg3⟩
  have hT3 : TkB w3 w.heap.size ⟨0, [], (0, 0)⟩ := Blk.grown HTB.out hg3 (by simp; omega)
  have hC3 : ChB w3 w1.heap.size (-1) p := Blk.grown HCB.out hg3 (by simp; omega)
  obtain ⟨-, k0, k1, k2, -⟩ := hC3.cells
  obtain ⟨t0, t1, t2, t3, f0, f1, f2, f3⟩ := hT3.cells
  have HT4 := Lib.hid (hT3.set (t := ⟨0, [], p⟩))
  have HR4 := Lib.hid (hR3.below (setT_below (t := ⟨0, [], p⟩) (Nat.le_refl w.heap.size)) hlt.2)
  have HG4 := Lib.hid (gr_below (gr_trans HG.out hg3) (setT_below (w := w3) (t := ⟨0, [], p⟩) (Nat.le_refl w.heap.size)) (Nat.le_refl _))
  clear hT3 hC3 hR3 hg3
  go_wp2
  exact bodyPost_ret (resTok rfl HT4.out) rfl (tokP_go rfl HG4.out HR4.out)

set_option maxRecDepth 100000 in
set_option maxHeartbeats 600000 in
theorem token_open (B g : Nat) (p : Ps) (x : It) (r : List It) (w : World) (h : Rdr w B g p (x :: r)) (hw : letterB x.1 = false) (hs1 : blankB x.1 = false) (hs2 : x.1 ≠ [35]) (hd : x.1 = [123]) :
    Calls Try.prog 29 #[.pointer (some ⟨g, 0, none⟩)] w (TokP B g p (x :: r) w) := by
  have hlt := h.lt
  have hx := h.ok x List.mem_cons_self
  obtain ⟨n, hn⟩ : ∃ n, n = hdc (x :: r) := ⟨_, rfl⟩
  have hb0 := (Below.refl w.heap.size w).alloc (Nat.le_refl _) (.cells #[.int .i64 0, .string ⟨#[]⟩, .int .i64 0, .int .i64 0] 37)
  have hR0 := h.below hb0 hlt.2
  have PK := Lib.hid (peekW B g p (x :: r) n hn _ hR0)
  have IW : ∀ W, Hid (Calls Try.prog 26 #[.int .i32 n] W fun r w' => r = .returned (.bool false) ∧ W = w') := fun W => Lib.hid (by
    have e : wordB n = false := by rw [hn]; exact (wordB_wc hx).trans hw
    rw [← e]; exact inWord_any n W)
  have e34 := wc_ascii hx 34 (by decide)
  have e123 := wc_ascii hx 123 (by decide)
  have e125 := wc_ascii hx 125 (by decide)
  have e59 := wc_ascii hx 59 (by decide)
  have hrg := (wc_range hx).2.2
  rw [show wc x = n from hn.symm] at e34 e123 e125 e59 hrg
  have HN := Lib.hid hn
  have HE : Hid (tokX p (x :: r) = .go (some ⟨3, [], p⟩) r (adv p x)) := Lib.hid (by
    show step p x r = _
    rw [step_nw hs1 hs2 hw]
    simp [hd])
  obtain rfl : n = 123 := e123.2 hd
  clear h hn hx hw hs1 hs2 hb0 e34 e123 e125 e59 hrg hd
  go_enter Try.func29, Try.ntmps29
  go_wp2_with fail
  refine PK.out.mono ?_
  rintro r' w1 ⟨rfl, hB1⟩
  obtain ⟨hR, hT, hC, hG, hl1, hl2⟩ := tok_boxes (n := 123) hlt hR0 hB1
  clear hR0 hB1
  have TK := Lib.hid (takeW B g p (x :: r) 123 HN.out _ hR)
  have HCB := Lib.hid hC
  have HTB := Lib.hid hT
  have HG := Lib.hid hG
  clear hR hC hT hG
  go_wp2_with fail
  refine (IW _).out.mono ?_
  rintro r' w2 ⟨rfl, rfl⟩
  go_wp2_with fail
  refine TK.out.mono ?_
  rintro r' w3 ⟨rfl, hR3, hg3⟩
  have hT3 : TkB w3 w.heap.size ⟨0, [], (0, 0)⟩ := Blk.grown HTB.out hg3 (by simp; omega)
  have hC3 : ChB w3 w1.heap.size 123 p := Blk.grown HCB.out hg3 (by simp; omega)
  obtain ⟨-, k0, k1, k2, -⟩ := hC3.cells
  obtain ⟨t0, t1, t2, t3, f0, f1, f2, f3⟩ := hT3.cells
  have HT4 := Lib.hid (hT3.set (t := ⟨3, [], p⟩))
  have HR4 := Lib.hid (hR3.below (setT_below (t := ⟨3, [], p⟩) (Nat.le_refl w.heap.size)) hlt.2)
  have HG4 := Lib.hid (gr_below (gr_trans HG.out hg3) (setT_below (w := w3) (t := ⟨3, [], p⟩) (Nat.le_refl w.heap.size)) (Nat.le_refl _))
  clear hT3 hC3 hR3 hg3
  go_wp2
  exact bodyPost_ret (resTok rfl HT4.out) rfl (tokP_go HE.out HG4.out HR4.out)

set_option maxRecDepth 100000 in
set_option maxHeartbeats 600000 in
theorem token_close (B g : Nat) (p : Ps) (x : It) (r : List It) (w : World) (h : Rdr w B g p (x :: r)) (hw : letterB x.1 = false) (hs1 : blankB x.1 = false) (hs2 : x.1 ≠ [35]) (hd : x.1 = [125]) :
    Calls Try.prog 29 #[.pointer (some ⟨g, 0, none⟩)] w (TokP B g p (x :: r) w) := by
  have hlt := h.lt
  have hx := h.ok x List.mem_cons_self
  obtain ⟨n, hn⟩ : ∃ n, n = hdc (x :: r) := ⟨_, rfl⟩
  have hb0 := (Below.refl w.heap.size w).alloc (Nat.le_refl _) (.cells #[.int .i64 0, .string ⟨#[]⟩, .int .i64 0, .int .i64 0] 37)
  have hR0 := h.below hb0 hlt.2
  have PK := Lib.hid (peekW B g p (x :: r) n hn _ hR0)
  have IW : ∀ W, Hid (Calls Try.prog 26 #[.int .i32 n] W fun r w' => r = .returned (.bool false) ∧ W = w') := fun W => Lib.hid (by
    have e : wordB n = false := by rw [hn]; exact (wordB_wc hx).trans hw
    rw [← e]; exact inWord_any n W)
  have e34 := wc_ascii hx 34 (by decide)
  have e123 := wc_ascii hx 123 (by decide)
  have e125 := wc_ascii hx 125 (by decide)
  have e59 := wc_ascii hx 59 (by decide)
  have hrg := (wc_range hx).2.2
  rw [show wc x = n from hn.symm] at e34 e123 e125 e59 hrg
  have HN := Lib.hid hn
  have HE : Hid (tokX p (x :: r) = .go (some ⟨4, [], p⟩) r (adv p x)) := Lib.hid (by
    show step p x r = _
    rw [step_nw hs1 hs2 hw]
    simp [hd])
  obtain rfl : n = 125 := e125.2 hd
  clear h hn hx hw hs1 hs2 hb0 e34 e123 e125 e59 hrg hd
  go_enter Try.func29, Try.ntmps29
  go_wp2_with fail
  refine PK.out.mono ?_
  rintro r' w1 ⟨rfl, hB1⟩
  obtain ⟨hR, hT, hC, hG, hl1, hl2⟩ := tok_boxes (n := 125) hlt hR0 hB1
  clear hR0 hB1
  have TK := Lib.hid (takeW B g p (x :: r) 125 HN.out _ hR)
  have HCB := Lib.hid hC
  have HTB := Lib.hid hT
  have HG := Lib.hid hG
  clear hR hC hT hG
  go_wp2_with fail
  refine (IW _).out.mono ?_
  rintro r' w2 ⟨rfl, rfl⟩
  go_wp2_with fail
  refine TK.out.mono ?_
  rintro r' w3 ⟨rfl, hR3, hg3⟩
  have hT3 : TkB w3 w.heap.size ⟨0, [], (0, 0)⟩ := Blk.grown HTB.out hg3 (by simp; omega)
  have hC3 : ChB w3 w1.heap.size 125 p := Blk.grown HCB.out hg3 (by simp; omega)
  obtain ⟨-, k0, k1, k2, -⟩ := hC3.cells
  obtain ⟨t0, t1, t2, t3, f0, f1, f2, f3⟩ := hT3.cells
  have HT4 := Lib.hid (hT3.set (t := ⟨4, [], p⟩))
  have HR4 := Lib.hid (hR3.below (setT_below (t := ⟨4, [], p⟩) (Nat.le_refl w.heap.size)) hlt.2)
  have HG4 := Lib.hid (gr_below (gr_trans HG.out hg3) (setT_below (w := w3) (t := ⟨4, [], p⟩) (Nat.le_refl w.heap.size)) (Nat.le_refl _))
  clear hT3 hC3 hR3 hg3
  go_wp2
  exact bodyPost_ret (resTok rfl HT4.out) rfl (tokP_go HE.out HG4.out HR4.out)

set_option maxRecDepth 100000 in
set_option maxHeartbeats 600000 in
theorem token_semi (B g : Nat) (p : Ps) (x : It) (r : List It) (w : World) (h : Rdr w B g p (x :: r)) (hw : letterB x.1 = false) (hs1 : blankB x.1 = false) (hs2 : x.1 ≠ [35]) (hd : x.1 = [59]) :
    Calls Try.prog 29 #[.pointer (some ⟨g, 0, none⟩)] w (TokP B g p (x :: r) w) := by
  have hlt := h.lt
  have hx := h.ok x List.mem_cons_self
  obtain ⟨n, hn⟩ : ∃ n, n = hdc (x :: r) := ⟨_, rfl⟩
  have hb0 := (Below.refl w.heap.size w).alloc (Nat.le_refl _) (.cells #[.int .i64 0, .string ⟨#[]⟩, .int .i64 0, .int .i64 0] 37)
  have hR0 := h.below hb0 hlt.2
  have PK := Lib.hid (peekW B g p (x :: r) n hn _ hR0)
  have IW : ∀ W, Hid (Calls Try.prog 26 #[.int .i32 n] W fun r w' => r = .returned (.bool false) ∧ W = w') := fun W => Lib.hid (by
    have e : wordB n = false := by rw [hn]; exact (wordB_wc hx).trans hw
    rw [← e]; exact inWord_any n W)
  have e34 := wc_ascii hx 34 (by decide)
  have e123 := wc_ascii hx 123 (by decide)
  have e125 := wc_ascii hx 125 (by decide)
  have e59 := wc_ascii hx 59 (by decide)
  have hrg := (wc_range hx).2.2
  rw [show wc x = n from hn.symm] at e34 e123 e125 e59 hrg
  have HN := Lib.hid hn
  have HE : Hid (tokX p (x :: r) = .go (some ⟨5, [], p⟩) r (adv p x)) := Lib.hid (by
    show step p x r = _
    rw [step_nw hs1 hs2 hw]
    simp [hd])
  obtain rfl : n = 59 := e59.2 hd
  clear h hn hx hw hs1 hs2 hb0 e34 e123 e125 e59 hrg hd
  go_enter Try.func29, Try.ntmps29
  go_wp2_with fail
  refine PK.out.mono ?_
  rintro r' w1 ⟨rfl, hB1⟩
  obtain ⟨hR, hT, hC, hG, hl1, hl2⟩ := tok_boxes (n := 59) hlt hR0 hB1
  clear hR0 hB1
  have TK := Lib.hid (takeW B g p (x :: r) 59 HN.out _ hR)
  have HCB := Lib.hid hC
  have HTB := Lib.hid hT
  have HG := Lib.hid hG
  clear hR hC hT hG
  go_wp2_with fail
  refine (IW _).out.mono ?_
  rintro r' w2 ⟨rfl, rfl⟩
  go_wp2_with fail
  refine TK.out.mono ?_
  rintro r' w3 ⟨rfl, hR3, hg3⟩
  have hT3 : TkB w3 w.heap.size ⟨0, [], (0, 0)⟩ := Blk.grown HTB.out hg3 (by simp; omega)
  have hC3 : ChB w3 w1.heap.size 59 p := Blk.grown HCB.out hg3 (by simp; omega)
  obtain ⟨-, k0, k1, k2, -⟩ := hC3.cells
  obtain ⟨t0, t1, t2, t3, f0, f1, f2, f3⟩ := hT3.cells
  have HT4 := Lib.hid (hT3.set (t := ⟨5, [], p⟩))
  have HR4 := Lib.hid (hR3.below (setT_below (t := ⟨5, [], p⟩) (Nat.le_refl w.heap.size)) hlt.2)
  have HG4 := Lib.hid (gr_below (gr_trans HG.out hg3) (setT_below (w := w3) (t := ⟨5, [], p⟩) (Nat.le_refl w.heap.size)) (Nat.le_refl _))
  clear hT3 hC3 hR3 hg3
  go_wp2
  exact bodyPost_ret (resTok rfl HT4.out) rfl (tokP_go HE.out HG4.out HR4.out)

set_option maxRecDepth 100000 in
set_option maxHeartbeats 600000 in
theorem token_bad (B g : Nat) (p : Ps) (x : It) (r : List It) (w : World) (h : Rdr w B g p (x :: r)) (hw : letterB x.1 = false) (hs1 : blankB x.1 = false) (hs2 : x.1 ≠ [35]) (d1 : x.1 ≠ [123]) (d2 : x.1 ≠ [125]) (d3 : x.1 ≠ [59]) (d4 : x.1 ≠ [34]) :
    Calls Try.prog 29 #[.pointer (some ⟨g, 0, none⟩)] w (TokP B g p (x :: r) w) := by
  have hlt := h.lt
  have hx := h.ok x List.mem_cons_self
  obtain ⟨n, hn⟩ : ∃ n, n = hdc (x :: r) := ⟨_, rfl⟩
  have hb0 := (Below.refl w.heap.size w).alloc (Nat.le_refl _) (.cells #[.int .i64 0, .string ⟨#[]⟩, .int .i64 0, .int .i64 0] 37)
  have hR0 := h.below hb0 hlt.2
  have PK := Lib.hid (peekW B g p (x :: r) n hn _ hR0)
  have IW : ∀ W, Hid (Calls Try.prog 26 #[.int .i32 n] W fun r w' => r = .returned (.bool false) ∧ W = w') := fun W => Lib.hid (by
    have e : wordB n = false := by rw [hn]; exact (wordB_wc hx).trans hw
    rw [← e]; exact inWord_any n W)
  have e34 := wc_ascii hx 34 (by decide)
  have e123 := wc_ascii hx 123 (by decide)
  have e125 := wc_ascii hx 125 (by decide)
  have e59 := wc_ascii hx 59 (by decide)
  have hrg := (wc_range hx).2.2
  rw [show wc x = n from hn.symm] at e34 e123 e125 e59 hrg
  have HN := Lib.hid hn
  have HE : Hid (tokX p (x :: r) = .bad p) := Lib.hid (by
    show step p x r = _
    rw [step_nw hs1 hs2 hw, if_neg d1, if_neg d2, if_neg d3, if_neg d4])
  have n1 : (n == 123) = false := beq_eq_false_iff_ne.2 (fun e => d1 (e123.1 e))
  have n2 : (n == 125) = false := beq_eq_false_iff_ne.2 (fun e => d2 (e125.1 e))
  have n3 : (n == 59) = false := beq_eq_false_iff_ne.2 (fun e => d3 (e59.1 e))
  have n4 : (n == 34) = false := beq_eq_false_iff_ne.2 (fun e => d4 (e34.1 e))
  have n5 : (n == -1) = false := beq_eq_false_iff_ne.2 hrg
  clear h hn hx hw hs1 hs2 hb0 e34 e123 e125 e59 hrg d1 d2 d3 d4
  go_enter Try.func29, Try.ntmps29
  go_wp2_with fail
  refine PK.out.mono ?_
  rintro r' w1 ⟨rfl, hB1⟩
  obtain ⟨hR, hT, hC, hG, hl1, hl2⟩ := tok_boxes (n := n) hlt hR0 hB1
  clear hR0 hB1
  have TK := Lib.hid (takeW B g p (x :: r) n HN.out _ hR)
  have HCB := Lib.hid hC
  have HTB := Lib.hid hT
  have HG := Lib.hid hG
  clear hR hC hT hG
  go_wp2_with fail
  refine (IW _).out.mono ?_
  rintro r' w2 ⟨rfl, rfl⟩
  go_wp2_with fail
  refine TK.out.mono ?_
  rintro r' w3 ⟨rfl, hR3, hg3⟩
  have hT3 : TkB w3 w.heap.size ⟨0, [], (0, 0)⟩ := Blk.grown HTB.out hg3 (by simp; omega)
  have hC3 : ChB w3 w1.heap.size n p := Blk.grown HCB.out hg3 (by simp; omega)
  obtain ⟨-, k0, k1, k2, -⟩ := hC3.cells
  have HG4 := Lib.hid (gr_trans HG.out hg3)
  clear hT3 hC3 hR3 hg3
  go_wp2
  exact ⟨rfl, tokP_bad HE.out HG4.out⟩

end Go.Proofs.Ytgpcbfjakgndlaa
