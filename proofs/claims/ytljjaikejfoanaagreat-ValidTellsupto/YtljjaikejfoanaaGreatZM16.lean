/- What ValidTells stands on: VadFst. -/
import Derived.Test.YtljjaikejfoanaaGreatZM0
import Derived.Test.YtljjaikejfoanaaGreatZM14
import Derived.RangeFuncBox
import Derived.Shelf.Abstract
import Derived.Shelf.RegionOpen
import Derived.OwnWalkIn
import Derived.TacticsInMore
import Derived.LoopNIn
import Derived.LoopIn
set_option linter.unusedSimpArgs false
set_option linter.unusedVariables false
namespace Go.Proofs.YtljjaikejfoanaaGreat
open Go.RowKit Go.Shelf
attribute [local go_sem] Oper.semAt_some
section
variable {W W' w : World} {row : Option Nat} {B : Nat}
theorem Blk.obj {g t : Nat} {cs : Array Value} (h : Blk W g t cs) (hg : W.grownBy W' row) (hr : ∀ r, row = some r → ∃ o : Obj, W.heap[r]? = some o ∧ o.isCells = false) : Blk W' g t cs := (grownBy_keeps_cells hg hr h rfl).trans h
theorem below_obj (h : Below B w W) (hg : W.grownBy W' row) (hr : ∀ r, row = some r → B ≤ r) (hB : B ≤ w.heap.size) : Below B w W' :=
  h.trans ⟨hg.os, hg.tape, hg.output, hg.size, fun k hk => hg.block k (by have := h.size; omega) (fun e => by have := hr k e.symm; omega)⟩
end
def EncP (b : Bad) (B : Nat) (args : Array Value) (W : World) : Prop := ∃ v, args = #[.agg #[.int .i64 (b.1 : Int), v]] ∧ OwnS B W v b.2
def EncO (o : Option Bad) (B : Nat) (args : Array Value) (W : World) : Prop := ∃ b, o = some b ∧ EncP b B args W
def PrbS (g : Nat) (lb : Array Value) (o : Option Bad) (w : World) : Prop := SeqOne Tryz.prog g lb (EncO o) o.isSome w
theorem EncP.mono {b : Bad} {B B' : Nat} {args : Array Value} {W : World} (h : EncP b B args W) (hb : B' ≤ B) : EncP b B' args W := by
  obtain ⟨v, h1, h2⟩ := h; exact ⟨v, h1, h2.mono hb⟩
theorem EncO.mono {o : Option Bad} {B B' : Nat} {args : Array Value} {W : World} (h : EncO o B args W) (hb : B' ≤ B) : EncO o B' args W := by
  obtain ⟨b, h1, h2⟩ := h; exact ⟨b, h1, h2.mono hb⟩
theorem EncO.size {o : Option Bad} {B : Nat} {args : Array Value} {W : World} (h : EncO o B args W) : args.size = 1 := by
  obtain ⟨b, _, v, rfl, _⟩ := h; rfl
theorem SeqOne.later {P : Program} {g : Nat} {lb : Array Value} {Enc : Nat → Array Value → World → Prop} {has : Bool} {w w' : World} (h : SeqOne P g lb Enc has w) (hb : Below w.heap.size w w') : SeqOne P g lb Enc has w' :=
  fun l Jx W hW => h l Jx W (hb.trans (hW.mono hb.size))
def FirstP (b : Bad) (w : World) (r : Ending) (w' : World) : Prop := ∃ v, r = .returned (.tuple #[.int .i64 (b.1 : Int), v]) ∧ WayV w'.heap.size w' v b.2 ∧ Below w.heap.size w w'
def FstX (o : Option Bad) (w : World) (c : Code) (W : World) : Prop := c = .ret ∧ ∃ b v, o = some b ∧ Blk W w.heap.size 30 #[.int .i64 (b.1 : Int)] ∧ Blk W (w.heap.size + 1) 31 #[v] ∧ OwnS (w.heap.size + 2) W v b.2 ∧ Below w.heap.size w W
def FstA (o : Option Bad) (f : Value) (w : World) (a : Act) (W : World) : Prop := ∃ (b : Bad) (A : Option Addr) (c Bx : Nat), o = some b ∧ Blk W Bx 68 #[.int .i64 (b.1 : Int), .slice A b.2.length c] ∧ OwnS (w.heap.size + 2) W (.slice A b.2.length c) b.2 ∧
  Blk W w.heap.size 30 #[.int .i64 0] ∧ Blk W (w.heap.size + 1) 31 #[.slice none 0 0] ∧ w.heap.size + 2 ≤ Bx ∧ Below w.heap.size w W ∧
  a = { tmps := #[f, undef, .pointer (some ⟨w.heap.size, 0, none⟩), .pointer (some ⟨w.heap.size + 1, 0, none⟩), .pointer (some ⟨Bx, 0, none⟩), f, .agg #[.int .i64 (b.1 : Int), .slice A b.2.length c], undef, undef, undef, undef], defers := [] }
theorem fstX_own (o : Option Bad) (w : World) (c : Code) : OwnFrom (w.heap.size + 2) (fun (_ : Unit) W => FstX o w c W) := by
  rintro s X Y row ⟨h1, b, v, h2, h3, h4, h5, h6⟩ hg hr
  have hc : ∀ r, row = some r → ∃ o : Obj, X.heap[r]? = some o ∧ o.isCells = false := fun r e => (hr r e).2
  exact ⟨h1, b, v, h2, h3.obj hg hc, h4.obj hg hc, h5.obj hg hc, below_obj h6 hg (fun r e => by have := (hr r e).1; omega) (Nat.le_refl _)⟩
theorem fstA_own (o : Option Bad) (f : Value) (w : World) (a : Act) : OwnFrom (w.heap.size + 2) (fun (_ : Unit) W => FstA o f w a W) := by
  rintro s X Y row ⟨b, A, c, Bx, h1, h2, h3, h4, h5, h6, h7, h8⟩ hg hr
  have hc : ∀ r, row = some r → ∃ o : Obj, X.heap[r]? = some o ∧ o.isCells = false := fun r e => (hr r e).2
  exact ⟨b, A, c, Bx, h1, h2.obj hg hc, h3.obj hg hc, h4.obj hg hc, h5.obj hg hc, h6, below_obj h7 hg (fun r e => by have := (hr r e).1; omega) (Nat.le_refl _), h8⟩
theorem results_fst {tmps : Array Value} {W : World} {B : Nat} {e : Int} {v : Value} (h2 : tmps.getD 2 undef = .pointer (some ⟨B, 0, none⟩)) (h3 : tmps.getD 3 undef = .pointer (some ⟨B + 1, 0, none⟩))
    (q0 : Blk W B 30 #[.int .i64 e]) (q1 : Blk W (B + 1) 31 #[v]) :
    (results Tryz.f19 tmps).run Tryz.prog W = .ok (.tuple #[.int .i64 e, v]) W := by
  have c0 := (q0.cell 0).trans rfl
  have c1 := (q1.cell 0).trans rfl
  have g2 : tmps[2]?.getD undef = .pointer (some ⟨B, 0, none⟩) := by simpa using h2
  have g3 : tmps[3]?.getD undef = .pointer (some ⟨B + 1, 0, none⟩) := by simpa using h3
  simp [results, Tryz.f19, go_sem, g2, g3, c0, c1]
set_option maxRecDepth 100000 in
set_option maxHeartbeats 2000000 in
theorem vfirst_any (g : Nat) (lb : Array Value) (o : Option Bad) (w : World) (eg : ∀ args w, (callFunc g args).run Tryz.prog w = .ok (.enter g args) w) (hseq : PrbS g lb o w) :
    Calls Tryz.prog 19 #[.func (.func g) #[] lb] w (FirstP (badO o) w) := by
  refine (callsIn_wide (n := 9)).1 ?_
  refine callsIn_of_wp_marks Tryz.func19 rfl trivial ?_ rfl
  simp only [Tryz.ntmps19, List.size_toArray, List.length_cons, List.length_nil, Nat.reduceAdd, Nat.reduceSub, Array.replicate_succ, Array.replicate_zero, List.push_toArray, List.append_toArray, List.nil_append, List.cons_append]
  gi_wp2
  obtain ⟨W2, hW2⟩ : ∃ W2, W2 = (w.alloc (.cells #[.int .i64 0] 30)).alloc (.cells #[.slice none 0 0] 31) := ⟨_, rfl⟩
  rw [← hW2]
  have hs2 : W2.heap.size = w.heap.size + 2 := by rw [hW2]; simp
  have hb2 : Below w.heap.size w W2 := by rw [hW2]; exact ((Below.refl _ _).alloc (Nat.le_refl _) _).alloc (by simp) _
  have b0 : Blk W2 w.heap.size 30 #[.int .i64 0] := by rw [hW2]; exact (Blk.new w _ _).alloc _
  have b1 : Blk W2 (w.heap.size + 1) 31 #[.slice none 0 0] := by rw [hW2]; exact Blk.newA (by simp) _ _
  have HB2 := Lib.hid hb2
  have HS2 := Lib.hid hs2
  have H0 := Lib.hid (And.intro b0 b1)
  refine wpIn_range_one (by decide) rfl eg (hseq.later hb2) (Below.refl _ _) (fun B args W h => h.size) (fun B B' args W hb h => h.mono hb) (FstX o w) (by rw [hs2]; exact fstX_own o w) (FstA o (.func (.func g) #[] lb) w) (by rw [hs2]; exact fstA_own o _ w) ?assign ?body ?done ?stop
  all_goals clear hW2 hs2 hb2 b0 b1 hseq
  case assign =>
    rintro l args W K hbW ⟨b, ho, v, rfl, hv⟩ hK
    rw [HS2.out] at hv
    obtain ⟨A, c, rfl⟩ := hv.shape
    gi_wp2
    have hal : Below W2.heap.size W (W.alloc (.cells #[.int .i64 (b.1 : Int), .slice A b.2.length c] 68)) := (Below.refl _ _).alloc hbW.size _
    refine hK _ _ ((KeepsOthers.alloc _ _).from _) ⟨b, A, c, W.heap.size, ho, Blk.new _ _ _, hv.below ((Below.refl _ _).alloc (Nat.le_refl _) _), ?_, ?_, ?_, ?_, rfl⟩
    · exact ((H0.out.1.below hbW H0.out.1.lt).alloc _)
    · exact ((H0.out.2.below hbW H0.out.2.lt).alloc _)
    · have := hbW.size; have := HS2.out; omega
    · exact HB2.out.trans ((hbW.trans hal).mono HB2.out.size)
  case body =>
    rintro l a' W hl ⟨b, A, c, Bx, h1, h2, h3, h4, h5, h6, h7, rfl⟩
    have hmix : Tryz.prog.follows .mixedOrders = true := by kernel_rfl
    have q0 := (h2.cell 0).trans rfl
    have q1 := (h2.cell 1).trans rfl
    have c0 := (h4.cell 0).trans rfl
    have c1 := (h5.cell 0).trans rfl
    have f0 := h4.frozen 0
    have f1 := h5.frozen 0
    obtain ⟨W5, hW5⟩ : ∃ W5, W5 = (((W.setCell ⟨w.heap.size, 0, none⟩ (.int .i64 (b.1 : Int))).setCell ⟨w.heap.size + 1, 0, none⟩ (.slice A b.2.length c)).drew) := ⟨_, rfl⟩
    have HEND : Hid (leftO W2.heap.size (FstX o w) W .ret { tmps := #[], defers := [] } W5) := Lib.hid (by
      have e0 : Blk W5 w.heap.size 30 #[.int .i64 (b.1 : Int)] := by
        rw [hW5]
        have h := (h4.set_ 0 (.int .i64 (b.1 : Int))).far (p := ⟨w.heap.size + 1, 0, none⟩) (by show w.heap.size ≠ w.heap.size + 1; omega) (.slice A b.2.length c)
        simp only [List.setIfInBounds_toArray, List.set_cons_zero] at h
        exact h
      have e1 : Blk W5 (w.heap.size + 1) 31 #[.slice A b.2.length c] := by
        rw [hW5]
        have h := (h5.far (p := ⟨w.heap.size, 0, none⟩) (by show w.heap.size + 1 ≠ w.heap.size; omega) (.int .i64 (b.1 : Int))).set_ 0 (.slice A b.2.length c)
        simp only [List.setIfInBounds_toArray, List.set_cons_zero] at h
        exact h
      have e2 : OwnS (w.heap.size + 2) W5 (.slice A b.2.length c) b.2 := by
        have hlt := fun k hk => (h3.lt k hk).1
        rw [hW5]
        have g1 := OwnK.grown h3 (grown_setAny W w.heap.size 0 (.int .i64 (b.1 : Int))) (.inr fun e => by have := hlt _ e; omega)
        have g2 := OwnK.grown g1 (grown_setAny _ (w.heap.size + 1) 0 (.slice A b.2.length c)) (.inr fun e => by have := hlt _ e; omega)
        exact OwnK.below g2 (Below.refl _ _).drew
      refine ⟨?_, rfl, b, _, h1, e0, e1, e2, ?_⟩
      · rw [hW5]; exact (((KeepsOthers.setCell _ _ _).trans (KeepsOthers.setCell _ _ _)).trans (KeepsOthers.drew _)).from _
      · rw [hW5]; exact h7.trans ((((Below.refl _ _).setCell (p := ⟨w.heap.size, 0, none⟩) (Nat.le_refl _) _).setCell (p := ⟨w.heap.size + 1, 0, none⟩) (Nat.le_succ _) _).drew))
    clear h1 h2 h3 h4 h5 h6 h7
    gi_wp2
    gi_region_with_o (fail)
    all_goals gi_wp2
    all_goals (rw [hW5] at HEND; exact HEND.out)
  case done =>
    intro hh D W hD hbW hK
    have ho : o = none := by cases o <;> simp_all
    have h4 := H0.out.1.below hbW H0.out.1.lt
    have h5 := H0.out.2.below hbW H0.out.2.lt
    have c0 := (h4.cell 0).trans rfl
    have c1 := (h5.cell 0).trans rfl
    have f0 := h4.frozen 0
    have f1 := h5.frozen 0
    have hlt4 := h4.lt
    have hDn : w.heap.size + 2 ≤ D := by have := HS2.out; omega
    obtain ⟨W5, hW5⟩ : ∃ W5, W5 = (W.setCell ⟨w.heap.size, 0, none⟩ (.int .i64 0)).setCell ⟨w.heap.size + 1, 0, none⟩ (.slice none 0 0) := ⟨_, rfl⟩
    have e0 : Blk W5 w.heap.size 30 #[.int .i64 0] := by
      rw [hW5]
      have h := (h4.set_ 0 (.int .i64 0)).far (p := ⟨w.heap.size + 1, 0, none⟩) (by show w.heap.size ≠ w.heap.size + 1; omega) (.slice none 0 0)
      simpa using h
    have e1 : Blk W5 (w.heap.size + 1) 31 #[.slice none 0 0] := by
      rw [hW5]
      have h := (h5.far (p := ⟨w.heap.size, 0, none⟩) (by show w.heap.size + 1 ≠ w.heap.size; omega) (.int .i64 0)).set_ 0 (.slice none 0 0)
      simpa using h
    have eD : W5.heap[D]? = some (.deferred (some [])) := by
      rw [hW5, Below.heap_setCell _ _ _ _ (by show D ≠ w.heap.size + 1; omega), Below.heap_setCell _ _ _ _ (by show D ≠ w.heap.size; omega)]
      exact hK
    have hW5b : Below w.heap.size w W5 := by
      rw [hW5]
      exact (HB2.out.trans (hbW.mono HB2.out.size)).trans (((Below.refl _ _).setCell (p := ⟨w.heap.size, 0, none⟩) (Nat.le_refl _) _).setCell (p := ⟨w.heap.size + 1, 0, none⟩) (Nat.le_succ _) _)
    have HEND := Lib.hid (And.intro e0 (And.intro e1 (And.intro eD hW5b)))
    have HW5 := Lib.hid hW5
    have HO := Lib.hid ho
    have HDN := Lib.hid hDn
    clear h4 h5 hlt4 hDn e0 e1 eD hW5b hW5 ho hh hbW
    gi_wp2
    rw [← HW5.out]
    refine ⟨by simp, .inl ⟨_, _, rfl, run_takeDeferred HEND.out.2.2.1, ?_⟩⟩
    have hob : ∀ {g t : Nat} {cs : Array Value}, Blk W5 g t cs → Blk (W5.putObj D (.deferred none)) g t cs := fun h => h.obj (row := some D) (grownBy_putObj' W5 D _) (fun r e => by cases e; exact ⟨_, HEND.out.2.2.1, rfl⟩)
    refine ⟨_, results_fst (B := w.heap.size) rfl rfl (hob HEND.out.1) (hob HEND.out.2.1), .slice none 0 0, by rw [HO.out]; rfl, ?_, ?_⟩
    · rw [HO.out]; exact WayV.nil _ _ _ _
    · exact HEND.out.2.2.2.trans (below_put _ _ _ (by have := HDN.out; omega))
  case stop =>
    rintro hh D c W hD ⟨rfl, b, v, h2, h3, h4, h5, h6⟩ hK
    have hDn : w.heap.size + 2 ≤ D := by have := HS2.out; omega
    have hob : ∀ {g t : Nat} {cs : Array Value}, Blk W g t cs → Blk (W.putObj D (.deferred none)) g t cs := fun h => h.obj (row := some D) (grownBy_putObj' W D _) (fun r e => by cases e; exact ⟨_, hK, rfl⟩)
    gi_wp2
    refine ⟨by simp, .inl ⟨_, _, rfl, run_takeDeferred hK, ?_⟩⟩
    refine ⟨_, results_fst (B := w.heap.size) rfl rfl (hob h3) (hob h4), v, by rw [h2]; rfl, ?_, ?_⟩
    · rw [h2]
      exact (h5.obj (row := some D) (grownBy_putObj' W D _) (fun r e => by cases e; exact ⟨_, hK, rfl⟩)).way
    · exact h6.trans (below_put _ _ _ (by omega))
end Go.Proofs.YtljjaikejfoanaaGreat
