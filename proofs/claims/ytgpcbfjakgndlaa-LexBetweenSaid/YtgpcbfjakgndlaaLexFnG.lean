/-
  Package lex: token of the reader, at a string, and whole. No condition but those of each theorem.
-/
import Derived.Test.YtgpcbfjakgndlaaLexFnF
namespace Go.Proofs.Ytgpcbfjakgndlaa
open Go.RowKit
set_option linter.unusedSimpArgs false

set_option maxRecDepth 100000 in
set_option maxHeartbeats 600000 in
theorem token_str (B g : Nat) (p : Ps) (x : It) (r : List It) (w : World) (h : Rdr w B g p (x :: r)) (hl : r.length < 100000) (hw : letterB x.1 = false) (hs1 : blankB x.1 = false) (hs2 : x.1 ≠ [35]) (hd : x.1 = [34]) :
    Calls Try.prog 29 #[.pointer (some ⟨g, 0, none⟩)] w (TokP B g p (x :: r) w) := by
  have hlt := h.lt
  have hx := h.ok x List.mem_cons_self
  obtain ⟨n, hn⟩ : ∃ n, n = hdc (x :: r) := ⟨_, rfl⟩
  have hb0 := (Below.refl w.heap.size w).alloc (Nat.le_refl _) (.cells #[.int .i64 0, .string ⟨#[]⟩, .int .i64 0, .int .i64 0] 37)
  have hR0 := h.below hb0 hlt.2
  have PK := Lib.hid (peekW B g p (x :: r) n hn _ hR0)
  have IW : ∀ W, Hid (Calls Try.prog 26 #[.int .i32 n] W fun r w' => r = .returned (.bool false) ∧ W = w') := fun W => Lib.hid (by
    have e : wordB n = false := by rw [hn]; exact (wordB_wc hx).trans hw
    rw [← e]; exact inWord_any n W)
  have e34 := wc_ascii hx 34 (by decide)
  have e123 := wc_ascii hx 123 (by decide)
  have e125 := wc_ascii hx 125 (by decide)
  have e59 := wc_ascii hx 59 (by decide)
  have hrg := (wc_range hx).2.2
  rw [show wc x = n from hn.symm] at e34 e123 e125 e59 hrg
  have HN := Lib.hid hn
  have hstep : tokX p (x :: r) = match str (adv p x) r with
      | .inl q => .bad q
      | .inr (t, r', q) => .go (some ⟨2, t, p⟩) r' q := by
    show step p x r = _
    rw [step_nw hs1 hs2 hw]
    simp only [hd]
    rfl
  obtain rfl : n = 34 := e34.2 hd
  clear h hn hx hw hs1 hs2 hb0 e34 e123 e125 e59 hrg hd
  go_enter Try.func29, Try.ntmps29
  go_wp2_with fail
  refine PK.out.mono ?_
  rintro r' w1 ⟨rfl, hB1⟩
  obtain ⟨hR, hT, hC, hG, hl1, hl2⟩ := tok_boxes (n := 34) hlt hR0 hB1
  clear hR0 hB1
  have TK := Lib.hid (takeW B g p (x :: r) 34 HN.out _ hR)
  have HCB := Lib.hid hC
  have HTB := Lib.hid hT
  have HG := Lib.hid hG
  clear hR hC hT hG
  go_wp2_with fail
  refine (IW _).out.mono ?_
  rintro r' w2 ⟨rfl, rfl⟩
  go_wp2_with fail
  refine TK.out.mono ?_
  rintro r' w3 ⟨rfl, hR3, hg3⟩
  have hT3 : TkB w3 w.heap.size ⟨0, [], (0, 0)⟩ := Blk.grown HTB.out hg3 (by simp; omega)
  have hC3 : ChB w3 w1.heap.size 34 p := Blk.grown HCB.out hg3 (by simp; omega)
  obtain ⟨-, k0, k1, k2, -⟩ := hC3.cells
  have PT := Lib.hid (parts_any B g (adv p x) r w3.drew (hR3.below (Below.refl B _).drew (Nat.le_refl _)) (by omega))
  have HG4 := Lib.hid (gr_trans HG.out hg3)
  have HT3 := Lib.hid hT3
  have HC3 := Lib.hid hC3
  have hs3 := hg3.size
  clear hT3 hC3 hR3 hg3
  cases hst : str (adv p x) r with
  | inl q =>
    rw [hst] at hstep
    have HE := Lib.hid hstep
    have PT2 : Hid (Calls Try.prog 39 #[.pointer (some ⟨g, 0, none⟩)] w3.drew (fun r' w' => r' = .panicked (prb q) ∧ w3.drew.grownBy w' (some g))) := Lib.hid (PT.out.mono fun _ _ ⟨h1, h2⟩ => by
      rw [hst] at h2; exact ⟨h2, h1⟩)
    clear hst hstep PT
    go_wp2_with fail
    have HGD : Hid (w.grownBy w3.drew (some g)) := Lib.hid (gr_below HG4.out (Below.refl w.heap.size w3).drew (Nat.le_refl _))
    refine wp_region_panicAt (fun c w' => TokP B g p (x :: r) w (.panicked c) w') (fun _ _ _ h1 h2 => ⟨h1, h2⟩) ?_
    refine wp_region_held_drew (S := fun _ => True) (by kernel_rfl) trivial (fun hS => ?_)
    refine wpAnyH_take (i := 0) (oi := ?o1_0_1) (v := ?v1_0_1) ?i1_0_1 (by kernel_rfl) (by kernel_rfl) (by kernel_rfl) (fun _ _ _ h => panic_put h) (Or.inl ⟨?g1_0_1, ?y1_0_1⟩) hS ?_
    case i1_0_1 => simp only [List.getElem?_toArray, List.getElem?_cons_succ, List.getElem?_cons_zero]; rfl
    case g1_0_1 => rfl
    case y1_0_1 => (intro w hSw; (go_simp <;> with_reducible rfl))
    (try simp only [Act.put, List.setIfInBounds_toArray, List.set_cons_zero, List.set_cons_succ])
    refine wpAnyH_take (i := 2) (oi := ?o1_2_2) (v := ?v1_2_2) ?i1_2_2 (by kernel_rfl) (by kernel_rfl) (by kernel_rfl) (fun _ _ _ h => panic_put h) (Or.inl ⟨?g1_2_2, ?y1_2_2⟩) hS ?_
    case i1_2_2 => simp only [List.getElem?_toArray, List.getElem?_cons_succ, List.getElem?_cons_zero]; rfl
    case g1_2_2 => rfl
    case y1_2_2 => (intro w hSw; (go_simp <;> with_reducible rfl))
    (try simp only [Act.put, List.setIfInBounds_toArray, List.set_cons_zero, List.set_cons_succ])
    refine held_more (S' := fun w' => ChB w' w1.heap.size 34 p) (fun _ _ => trivial) _ _ _ _ ?_
    replace hS : ChB w3.drew w1.heap.size 34 p := HC3.out
    refine wpAnyH_take (i := 3) (oi := ?o1_3_3) (v := ?v1_3_3) ?i1_3_3 (by kernel_rfl) (by kernel_rfl) (by kernel_rfl) (fun _ _ _ h => panic_put h) (Or.inl ⟨?g1_3_3, ?y1_3_3⟩) hS ?_
    case i1_3_3 => simp only [List.getElem?_toArray, List.getElem?_cons_succ, List.getElem?_cons_zero]; rfl
    case g1_3_3 => rfl
    case y1_3_3 => (intro w hSw; have hc1 := (ChB.cells hSw).2.2.1; have hc2 := (ChB.cells hSw).2.2.2.1; (go_simp <;> with_reducible rfl))
    (try simp only [Act.put, List.setIfInBounds_toArray, List.set_cons_zero, List.set_cons_succ])
    refine wpAnyH_ready (rs := [1]) (by kernel_rfl) (by simp) ?_
    refine (AllReadyH.cons (o := ?o1_4_1) ?i1_4_1 (fun K hK => ?st1_4_1) AllReadyH.nil)
    case i1_4_1 => simp only [List.getElem?_toArray, List.getElem?_cons_succ, List.getElem?_cons_zero]; rfl
    rw [if_pos (by rfl)]
    go_simp
    refine PT2.out.mono ?_
    rintro r' w4 ⟨rfl, hg4⟩
    exact ⟨rfl, tokP_bad HE.out (gr_trans HGD.out hg4)⟩
  | inr v =>
    obtain ⟨t, r2, q⟩ := v
    rw [hst] at hstep
    have HE := Lib.hid hstep
    have PT2 : Hid (Calls Try.prog 39 #[.pointer (some ⟨g, 0, none⟩)] w3.drew (fun r' w' => r' = .returned (.string (txt t)) ∧ Rdr w' B g q r2 ∧ w3.drew.grownBy w' (some g))) := Lib.hid (PT.out.mono fun _ _ ⟨h1, h2⟩ => by
      rw [hst] at h2; exact ⟨h2.1, h2.2, h1⟩)
    clear hst hstep PT
    go_wp2_with fail
    refine wp_region_noPanic ?_
    refine wp_region_held_drew (S := fun _ => True) (by kernel_rfl) trivial (fun hS => ?_)
    refine wpAnyH_take (i := 0) (oi := ?o2_0_1) (v := ?v2_0_1) ?i2_0_1 (by kernel_rfl) (by kernel_rfl) (by kernel_rfl) (fun _ _ _ h => h) (Or.inl ⟨?g2_0_1, ?y2_0_1⟩) hS ?_
    case i2_0_1 => simp only [List.getElem?_toArray, List.getElem?_cons_succ, List.getElem?_cons_zero]; rfl
    case g2_0_1 => rfl
    case y2_0_1 => (intro w hSw; (go_simp <;> with_reducible rfl))
    (try simp only [Act.put, List.setIfInBounds_toArray, List.set_cons_zero, List.set_cons_succ])
    refine wpAnyH_take (i := 2) (oi := ?o2_2_2) (v := ?v2_2_2) ?i2_2_2 (by kernel_rfl) (by kernel_rfl) (by kernel_rfl) (fun _ _ _ h => h) (Or.inl ⟨?g2_2_2, ?y2_2_2⟩) hS ?_
    case i2_2_2 => simp only [List.getElem?_toArray, List.getElem?_cons_succ, List.getElem?_cons_zero]; rfl
    case g2_2_2 => rfl
    case y2_2_2 => (intro w hSw; (go_simp <;> with_reducible rfl))
    (try simp only [Act.put, List.setIfInBounds_toArray, List.set_cons_zero, List.set_cons_succ])
    refine held_more (S' := fun w' => ChB w' w1.heap.size 34 p) (fun _ _ => trivial) _ _ _ _ ?_
    replace hS : ChB w3.drew w1.heap.size 34 p := HC3.out
    refine wpAnyH_take (i := 3) (oi := ?o2_3_3) (v := ?v2_3_3) ?i2_3_3 (by kernel_rfl) (by kernel_rfl) (by kernel_rfl) (fun _ _ _ h => h) (Or.inl ⟨?g2_3_3, ?y2_3_3⟩) hS ?_
    case i2_3_3 => simp only [List.getElem?_toArray, List.getElem?_cons_succ, List.getElem?_cons_zero]; rfl
    case g2_3_3 => rfl
    case y2_3_3 => (intro w hSw; have hc1 := (ChB.cells hSw).2.2.1; have hc2 := (ChB.cells hSw).2.2.2.1; (go_simp <;> with_reducible rfl))
    (try simp only [Act.put, List.setIfInBounds_toArray, List.set_cons_zero, List.set_cons_succ])
    refine wpAnyH_ready (rs := [1]) (by kernel_rfl) (by simp) ?_
    refine (AllReadyH.cons (o := ?o2_4_1) ?i2_4_1 (fun K hK => ?st2_4_1) AllReadyH.nil)
    case i2_4_1 => simp only [List.getElem?_toArray, List.getElem?_cons_succ, List.getElem?_cons_zero]; rfl
    rw [if_pos (by rfl)]
    go_simp
    refine PT2.out.mono ?_
    rintro r' w4 ⟨rfl, hR4, hg4⟩
    refine hK.out _ _ ?s2_4_1 (fun hS => ?_)
    case s2_4_1 => (exact Blk.grown hS hg4 (by simp; omega))
    clear hK K
    (try simp only [Act.put, List.setIfInBounds_toArray, List.set_cons_zero, List.set_cons_succ])
    have hT4 : TkB w4 w.heap.size ⟨0, [], (0, 0)⟩ := Blk.grown (w := w3.drew) HT3.out hg4 (by simp; omega)
    obtain ⟨t0, t1, t2, t3, f0, f1, f2, f3⟩ := hT4.cells
    refine wpAnyH_take (i := 4) (oi := ?o2_4_5) (v := ?v2_4_5) ?i2_4_5 (by kernel_rfl) (by kernel_rfl) (by kernel_rfl) (fun _ _ _ h => h) (Or.inl ⟨?g2_4_5, ?y2_4_5⟩) hS ?_
    case i2_4_5 => simp only [List.getElem?_toArray, List.getElem?_cons_succ, List.getElem?_cons_zero]; rfl
    case g2_4_5 => rfl
    case y2_4_5 => (intro w hSw; (go_simp <;> with_reducible rfl))
    (try simp only [Act.put, List.setIfInBounds_toArray, List.set_cons_zero, List.set_cons_succ])
    refine wpAnyH_ready (rs := [5]) (by kernel_rfl) (by simp) ?_
    refine (AllReadyH.cons (o := ?o2_6_5) ?i2_6_5 (fun K hK => ?st2_6_5) AllReadyH.nil)
    case i2_6_5 => simp only [List.getElem?_toArray, List.getElem?_cons_succ, List.getElem?_cons_zero]; rfl
    rw [if_pos (by rfl)]
    go_simp
    refine hK.out _ _ ?s2_6_5 (fun hS => ?_)
    case s2_6_5 => (exact Blk.far (Blk.far (Blk.far (Blk.far hS (by simp; omega) _) (by simp; omega) _) (by simp; omega) _) (by simp; omega) _)
    clear hK K
    (try simp only [Act.put, List.setIfInBounds_toArray, List.set_cons_zero, List.set_cons_succ])
    refine wpAnyH_done (by kernel_rfl) ?_ _
    refine NoPanic.normal ?_
    have HT4 := Lib.hid (hT4.set (t := ⟨2, t, p⟩))
    have HR4 := Lib.hid (hR4.below (setT_below (t := ⟨2, t, p⟩) (Nat.le_refl w.heap.size)) hlt.2)
    have hgd : w.grownBy w3.drew (some g) := gr_below HG4.out (Below.refl w.heap.size w3).drew (Nat.le_refl _)
    have HG5 := Lib.hid (gr_below (gr_trans hgd hg4) (setT_below (w := w4) (t := ⟨2, t, p⟩) (Nat.le_refl w.heap.size)) (Nat.le_refl _))
    clear hgd hg4 hR4 hT4
    go_wp2
    refine bodyPost_ret (resTok rfl HT4.out) rfl ?_
    exact tokP_go HE.out HG5.out HR4.out
theorem token_any (B g : Nat) (p : Ps) (l : List It) (w : World) (h : Rdr w B g p l) (hl : l.length ≤ 100000) (hs : Skd l) :
    Calls Try.prog 29 #[.pointer (some ⟨g, 0, none⟩)] w (TokP B g p l w) := by
  cases l with
  | nil => exact token_end B g p w h
  | cons x r =>
    simp only [List.length_cons] at hl
    obtain ⟨s1, s2⟩ := hs x r rfl
    cases hw : letterB x.1 with
    | true => exact token_word B g p x r w h (by omega) hw
    | false =>
      by_cases d1 : x.1 = [123]
      · exact token_open B g p x r w h hw s1 s2 d1
      by_cases d2 : x.1 = [125]
      · exact token_close B g p x r w h hw s1 s2 d2
      by_cases d3 : x.1 = [59]
      · exact token_semi B g p x r w h hw s1 s2 d3
      by_cases d4 : x.1 = [34]
      · exact token_str B g p x r w h (by omega) hw s1 s2 d4
      · exact token_bad B g p x r w h hw s1 s2 d1 d2 d3 d4
