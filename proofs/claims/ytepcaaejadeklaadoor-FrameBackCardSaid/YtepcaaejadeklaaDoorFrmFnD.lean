/-
  What package frame's All answers, where its package-level table holds what the program's text lays; all of package frame answers as it is to. No condition but those of each theorem.
-/
import Derived.Test.YtepcaaejadeklaaDoorFrmFnC
import Derived.Maps.AppendAt
import Derived.Outline
namespace Go.Proofs.YtepcaaejadeklaaDoor
open Go.RowKit Go.Shelf
attribute [local go_sem] Oper.semAt_some
set_option linter.unusedSimpArgs false

theorem Tryd.infoB : (Tryd.prog.info? 22).map (fun i => (i.zero, i.size, i.bytes)) = some (some (.slice none 0 0), 1, 24) := by kernel_rfl

def vsOf (xs : List Rec) : List Value := xs.map (·.v)
/-- Between two rounds. -/
def AllI (B : Nat) (w : World) (pre : List Rec) (W : World) : Prop :=
  (∃ v, Boxed W (B + 3) 37 v ∧ W.ownsRow B 22 1 v pre.length (vsOf pre) ∧ True) ∧ Boxed W (B + 4) 3 (.int .i64 (sizes pre : Int)) ∧
    Boxed W B 37 (.slice none 0 0) ∧ Boxed W (B + 1) 3 (.int .i64 0) ∧ Boxed W (B + 2) 24 (.int .i64 0) ∧ (sizes pre ≤ 90000 * pre.length ∧ (∀ x ∈ pre, x.e = 0) ∧ B + 6 ≤ W.heap.size) ∧ Below B w W
/-- Behind a return out of a round. -/
def AllX (B : Nat) (w : World) (c : Code) (pre : List Rec) (W : World) : Prop :=
  c = .ret ∧ (∃ v, Boxed W B 37 v ∧ W.ownsRow B 22 1 v (pre.length - 1) (vsOf pre.dropLast) ∧ True) ∧ Boxed W (B + 1) 3 (.int .i64 (sizes pre.dropLast : Int)) ∧
    (∃ x, pre.getLast? = some x ∧ x.e ≠ 0 ∧ Boxed W (B + 2) 24 (.int .i64 x.e)) ∧ Below B w W
theorem allI_own (B : Nat) (w : World) (hB : B = w.heap.size) {B' : Nat} (h : B ≤ B') : OwnFrom B' (AllI B w) := by
  subst hB
  intro s X Y row hs hg hr
  have hc : ∀ r, row = some r → ∃ o : Obj, X.heap[r]? = some o ∧ o.isCells = false := fun r e => (hr r e).2
  have bx : ∀ {b t v}, Boxed X b t v → Boxed Y b t v := fun h => h.kept hg (fun e => by
    obtain ⟨o, ho, hcc⟩ := hc _ e.symm
    rw [show X.heap[_]? = _ from h] at ho
    cases ho; cases hcc)
  obtain ⟨h1, h2, h3, h4, h5, h6, h7⟩ := hs
  exact ⟨holdsRow_own w.heap.size (w.heap.size + 3) 37 22 1 (fun pre : List Rec => pre.length) vsOf (fun _ _ => True) s X Y row h1 hg hc, bx h2, bx h3, bx h4, bx h5, ⟨h6.1, h6.2.1, Nat.le_trans h6.2.2 hg.size⟩,
    ownFrom_below (β := Unit) (w₀ := w) (Nat.le_refl _) h () X Y row h7 hg hr⟩
theorem allX_own (B : Nat) (w : World) (hB : B = w.heap.size) {B' : Nat} (h : B ≤ B') (c : Code) : OwnFrom B' (AllX B w c) := by
  subst hB
  intro s X Y row hs hg hr
  have hc : ∀ r, row = some r → ∃ o : Obj, X.heap[r]? = some o ∧ o.isCells = false := fun r e => (hr r e).2
  have bx : ∀ {b t v}, Boxed X b t v → Boxed Y b t v := fun h => h.kept hg (fun e => by
    obtain ⟨o, ho, hcc⟩ := hc _ e.symm
    rw [show X.heap[_]? = _ from h] at ho
    cases ho; cases hcc)
  obtain ⟨h1, h2, h3, ⟨x, h4, h5, h6⟩, h7⟩ := hs
  exact ⟨h1, holdsRow_own w.heap.size w.heap.size 37 22 1 (fun pre : List Rec => pre.length - 1) (fun pre => vsOf pre.dropLast) (fun _ _ => True) s X Y row h2 hg hc, bx h3, ⟨x, h4, h5, bx h6⟩,
    ownFrom_below (β := Unit) (w₀ := w) (Nat.le_refl _) h () X Y row h7 hg hr⟩

/-- The loop variables of a round. -/
def AllA (B : Nat) (l : Value) (f : Value) (x : Rec) (a : Act) (W : World) : Prop := ∃ Bx, B + 5 < Bx ∧ Blk W Bx 64 #[x.v, .int .i64 (x.n : Int)] ∧
  a = { tmps := #[l, undef, .pointer (some ⟨B, 0, none⟩), .pointer (some ⟨B + 1, 0, none⟩), .pointer (some ⟨B + 2, 0, none⟩), .pointer (some ⟨B + 3, 0, none⟩), .pointer (some ⟨B + 4, 0, none⟩), .pointer (some ⟨Bx, 0, none⟩), .int .i64 x.e, l, f, .agg #[x.v, .int .i64 (x.n : Int)], .int .i64 x.e,
    undef, undef, undef, undef, undef, undef, undef, undef, undef, undef, undef, undef, undef, undef, undef, undef], defers := [] }

theorem ownsRow_shape {W : World} {base : Nat} {e : TypeId} {size : Nat} {v : Value} {k : Nat} {xs : List Value} (h : W.ownsRow base e size v k xs) : ∃ A c, v = .slice A k c := by
  rcases h.2 with ⟨rfl, h0⟩ | ⟨g, cap, cur, rfl, _⟩
  · exact ⟨none, 0, by rw [h0]⟩
  · exact ⟨_, _, rfl⟩
/-- A block of another type is not a slice's own row. -/
theorem row_ne_blk {W : World} {g : Nat} {t e : TypeId} {cs : Array Value} (h : Blk W g t cs) (hte : t ≠ e) {base size k : Nat} {v : Value} {xs : List Value} (hr : W.ownsRow base e size v k xs) : some g ≠ v.ownBlock := by
  rcases hr.2 with ⟨rfl, _⟩ | ⟨g', cap, cur, rfl, _, hgb, _⟩
  · simp [Value.ownBlock]
  · intro e'
    obtain rfl : g = g' := by simpa [Value.ownBlock] using e'
    unfold Blk at h
    rw [h] at hgb
    injection hgb with hgb
    injection hgb with _ h2
    exact hte h2
/-- The results stored. -/
theorem stored3 {W : World} {B : Nat} {v v0 v1 v2 : Value} {k : Nat} {xs : List Value} {s e : Int} (q0 : Boxed W B 37 v0) (q1 : Boxed W (B + 1) 3 v1) (q2 : Boxed W (B + 2) 24 v2) (hrow : W.ownsRow B 22 1 v k xs) :
    ∀ W', W' = (((W.setCell ⟨B, 0, none⟩ v).setCell ⟨B + 1, 0, none⟩ (.int .i64 s)).setCell ⟨B + 2, 0, none⟩ (.int .i64 e)).drew →
      Boxed W' B 37 v ∧ Boxed W' (B + 1) 3 (.int .i64 s) ∧ Boxed W' (B + 2) 24 (.int .i64 e) ∧ W'.ownsRow B 22 1 v k xs ∧ KeepsOthers W W' ∧ KpB B W W' := by
  rintro W' rfl
  have a0 : Boxed (W.setCell ⟨B, 0, none⟩ v) B 37 v := q0.set v
  have a1 : Boxed (W.setCell ⟨B, 0, none⟩ v) (B + 1) 3 v1 := q1.other (by omega) v
  have a2 : Boxed (W.setCell ⟨B, 0, none⟩ v) (B + 2) 24 v2 := q2.other (by omega) v
  have ar : (W.setCell ⟨B, 0, none⟩ v).ownsRow B 22 1 v k xs := hrow.kept (grownBy_setCell' W B v) (.inr (q0.not_row (by decide) hrow).symm)
  have c0 : Boxed ((W.setCell ⟨B, 0, none⟩ v).setCell ⟨B + 1, 0, none⟩ (.int .i64 s)) B 37 v := a0.other (by omega) _
  have c1 : Boxed ((W.setCell ⟨B, 0, none⟩ v).setCell ⟨B + 1, 0, none⟩ (.int .i64 s)) (B + 1) 3 (.int .i64 s) := a1.set _
  have c2 : Boxed ((W.setCell ⟨B, 0, none⟩ v).setCell ⟨B + 1, 0, none⟩ (.int .i64 s)) (B + 2) 24 v2 := a2.other (by omega) _
  have cr : ((W.setCell ⟨B, 0, none⟩ v).setCell ⟨B + 1, 0, none⟩ (.int .i64 s)).ownsRow B 22 1 v k xs := ar.kept (grownBy_setCell' _ (B + 1) _) (.inr (a1.not_row (by decide) ar).symm)
  have dr := cr.kept (grownBy_setCell' _ (B + 2) (.int .i64 e)) (.inr (c2.not_row (by decide) cr).symm)
  refine ⟨c0.other (by omega) (.int .i64 e), c1.other (by omega) (.int .i64 e), c2.set (.int .i64 e), dr, (((KeepsOthers.setCell _ _ _).trans (KeepsOthers.setCell _ _ _)).trans (KeepsOthers.setCell _ _ _)).trans (KeepsOthers.drew _), ?_⟩
  have k0 : KpB B W (W.setCell ⟨B, 0, none⟩ v) := KpB.set (cs := #[v0]) q0 (Nat.le_refl _) (by decide) 0 v
  have k1 := k0.trans (KpB.set (cs := #[v1]) a1 (by omega) (by decide) 0 (.int .i64 s))
  have k2 := k1.trans (KpB.set (cs := #[v2]) c2 (by omega) (by decide) 0 (.int .i64 e))
  exact ⟨k2.1.drew, k2.2⟩
/-- The world in which the loop begins. -/
theorem all_start (w : World) (v0 : Value) : ∃ W6, W6 = ((((((w.alloc (.cells #[.slice none 0 0] 37)).alloc (.cells #[.int .i64 0] 3)).alloc (.cells #[.int .i64 0] 24)).alloc (.cells #[.slice none 0 0] 37)).alloc (.cells #[.int .i64 0] 3)).alloc (.cells #[v0] 22)) ∧
    Boxed W6 w.heap.size 37 (.slice none 0 0) ∧ Boxed W6 (w.heap.size + 1) 3 (.int .i64 0) ∧ Boxed W6 (w.heap.size + 2) 24 (.int .i64 0) ∧ Boxed W6 (w.heap.size + 3) 37 (.slice none 0 0) ∧ Boxed W6 (w.heap.size + 4) 3 (.int .i64 0) ∧ Boxed W6 (w.heap.size + 5) 22 v0 ∧
    W6.heap.size = w.heap.size + 6 ∧ Below w.heap.size w W6 := by
  have bx : ∀ (W : World) (t : TypeId) (v : Value) (k : Nat), W.heap.size = k → Boxed (W.alloc (.cells #[v] t)) k t v := fun W t v k h => h ▸ Boxed.new W t v
  refine ⟨_, rfl, ?_, ?_, ?_, ?_, ?_, ?_, by simp, ?_⟩
  · exact (((((bx w _ _ _ rfl).alloc _).alloc _).alloc _).alloc _).alloc _
  · exact ((((bx _ _ _ _ (by simp)).alloc _).alloc _).alloc _).alloc _
  · exact (((bx _ _ _ _ (by simp)).alloc _).alloc _).alloc _
  · exact ((bx _ _ _ _ (by simp)).alloc _).alloc _
  · exact (bx _ _ _ _ (by simp)).alloc _
  · exact bx _ _ _ _ (by simp)
  · exact ((((((Below.refl _ w).alloc (Nat.le_refl _) _).alloc (by simp) _).alloc (by simp; omega) _).alloc (by simp; omega) _).alloc (by simp; omega) _).alloc (by simp; omega) _

theorem results3 {tmps : Array Value} {W : World} {B : Nat} {A : Option Addr} {k c : Nat} {s e : Int} (h2 : tmps.getD 2 undef = .pointer (some ⟨B, 0, none⟩)) (h3 : tmps.getD 3 undef = .pointer (some ⟨B + 1, 0, none⟩)) (h4 : tmps.getD 4 undef = .pointer (some ⟨B + 2, 0, none⟩))
    (q0 : Boxed W B 37 (.slice A k c)) (q1 : Boxed W (B + 1) 3 (.int .i64 s)) (q2 : Boxed W (B + 2) 24 (.int .i64 e)) :
    (results Tryd.f16 tmps).run Tryd.prog W = .ok (.tuple #[.slice A k c, .int .i64 s, .int .i64 e]) W := by
  have c0 := q0.cell
  have c1 := q1.cell
  have c2 := q2.cell
  have g2 : tmps[2]?.getD undef = .pointer (some ⟨B, 0, none⟩) := by simpa using h2
  have g3 : tmps[3]?.getD undef = .pointer (some ⟨B + 1, 0, none⟩) := by simpa using h3
  have g4 : tmps[4]?.getD undef = .pointer (some ⟨B + 2, 0, none⟩) := by simpa using h4
  simp [results, Tryd.f16, go_sem, g2, g3, g4, c0, c1, c2]
theorem Chain.each {b r : List UInt8} {xs : List Rec} (h : Chain b xs r) : ∀ x ∈ xs, x.l.length ≤ b.length := by
  induction h with
  | nil => simp
  | snoc hc h0 hg _ ih =>
    intro y hy
    rcases List.mem_append.1 hy with h | h
    · exact ih y h
    · simp at h
      have h1 := getF_pos hg
      have h2 := hc.len
      rw [h]; omega
theorem rowB_of {W : World} {base n₀ : Nat} {v : Value} {xs : List Rec} (h : W.ownsRow base 22 1 v xs.length (vsOf xs)) (ho : OwnR n₀ W xs) (hl : ∀ x ∈ xs, x.l.length ≤ 140737488355328) : ∃ d, RowB W d v (xs.map (·.l)) := by
  have hv : OwnV 22 W base v (vsOf xs) := by unfold OwnV; simpa [vsOf] using h
  obtain ⟨d, hd, -⟩ := hv.vals
  refine ⟨d, vsOf xs, hd, by simp [vsOf], fun j l hj => ?_⟩
  rw [List.getElem?_map] at hj
  obtain ⟨x, hx, rfl⟩ := Option.map_eq_some_iff.1 hj
  have hm := List.mem_of_getElem? hx
  obtain ⟨db, -, -, hr⟩ := (ho x hm).rd (hl x hm)
  exact ⟨x.v, db, by simp [vsOf, hx], hr⟩
/-- What All hands back, at its return. -/
theorem all_post {b r : List UInt8} {ps : List Rec} {w W : World} {B D : Nat} {A : Option Addr} {c : Nat} {e : Int} (hB : B = w.heap.size) (hch : Chain b ps r) (hr : recs r = ([], 0, e)) (hb9 : b.length ≤ 90000) (hO : OwnR B W ps)
    (hrow : W.ownsRow B 22 1 (.slice A ps.length c) ps.length (vsOf ps)) (hBel : Below B w W) (hD : B ≤ D) (hK : W.heap[D]? = some (.deferred (some []))) :
    AllFP (recs b) w (.returned (.tuple #[.slice A ps.length c, .int .i64 (sizes ps : Int), .int .i64 e])) (W.putObj D (.deferred none)) := by
  obtain ⟨d, hd⟩ := rowB_of (ownsRow_putObj hrow (.deferred none) hK rfl) (n₀ := B) (fun x hx => (hO x hx).obj (grownBy_putObj' W D (.deferred none)) (fun r' e' => by cases e'; exact ⟨_, hK, rfl⟩)) (fun x hx => by have := hch.each x hx; omega)
  have hrec := hch.recs
  rw [hr] at hrec
  simp only [List.append_nil, Nat.add_zero] at hrec
  refine ⟨_, d, by rw [hrec], by rw [hrec]; exact hd, ?_⟩
  subst hB
  exact hBel.trans (belowK_b (w := w) (Nat.le_refl _) W D _ _ hD hK rfl rfl)

set_option maxRecDepth 100000 in
set_option maxHeartbeats 2000000 in
theorem all_in (F : Fence) (n : Nat) (h3 : F.fn 16) (h5 : F.fn 29) (h6 : F.fn 34) (h7 : F.fn 12) (hro : F.round = none) (hn : 4 ≤ n) (b : List UInt8) (w : World) (d : Nat) (v0 : Value)
    (hget : ∀ (s : List UInt8) (W : World) (v : Value), Tab W → Rd W d v s → CallsIn F (n - 1 - 1) Tryd.prog 12 #[v] W (GetO (getF s) W))
    (hT : Tab w) (hr : Rd w d v0 b) (hd : d < w.heap.size) (hb9 : b.length ≤ 90000) :
    CallsIn F n Tryd.prog 16 #[v0] w (AllFP (recs b) w) := by
  have h1 : 1 ≤ n := by omega
  obtain ⟨A0, c0, rfl⟩ := hr.shape4
  obtain ⟨i0, hi, hz0, hz1, hz2⟩ := info_parts Tryd.infoB
  refine callsIn_of_wp_marks Tryd.func16 rfl h3 ?_ hro
  simp only [Tryd.ntmps16, List.size_toArray, List.length_cons, List.length_nil, Nat.reduceAdd, Nat.reduceSub, Array.replicate_succ, Array.replicate_zero, List.push_toArray, List.append_toArray, List.nil_append, List.cons_append]
  gi_wp2_with (gi_at_call 29; refine (records_in F (n - 1) h5 hro _ _ _ _).mono ?_; rintro e w' ⟨rfl, rfl⟩)
  obtain ⟨W6, hW6, b0, b1, b2, b3, b4, b5, hs6, hb6⟩ := all_start w (.slice A0 b.length c0)
  rw [← hW6]
  clear hW6
  obtain ⟨B, hB⟩ : ∃ B, B = w.heap.size := ⟨_, rfl⟩
  rw [← hB] at b0 b1 b2 b3 b4 b5 hs6 hd ⊢
  have HB := Lib.hid hB
  have HS6 := Lib.hid hs6
  refine wpIn_range_mem hro h1 (gf := 34) (lb := #[.pointer (some ⟨B + 5, 0, none⟩)]) rfl h6 (enters_of Tryd.func34 (by kernel_rfl) rfl)
    (records_seq F (n - 1) h6 h7 hro (by omega) (B + 5) B d _ b W6 hget hd (by rw [hB]; exact hT.lt) hb9 (by omega) (hT.below hb6) b5 (hr.below' hb6))
    (fun h k => KpB.trans h k) (fun W l o o' g1 g2 g3 _ => KpB.putObj W l o o' (by omega) g2 g3) (Below.refl _ _) (fun _ => rfl)
    (AllI B w) (AllX B w) (allI_own B w hB (by omega)) (fun c => allX_own B w hB (by omega) c) recG_own recS_own recSp_own
    ⟨⟨_, b3, World.ownsRow_nil _ _ _ _, trivial⟩, b4, b0, b1, b2, ⟨by simp [sizes], by simp, by omega⟩, by rw [HB.out]; exact hb6⟩
    (AllA B (.slice A0 b.length c0) (.func (.func 34) #[] #[.pointer (some ⟨B + 5, 0, none⟩)])) ?hAx ?assign ?body ?done ?stop
  all_goals clear hB hs6
  case hAx =>
    rintro x a' s X Y row ⟨Bx, g1, g2, g3⟩ hg hr'
    refine ⟨Bx, g1, g2.grown hg (fun e => ?_), g3⟩
    obtain ⟨o, ho, hc⟩ := (hr' _ e.symm).2
    unfold Blk at g2
    rw [g2] at ho
    cases ho
    cases hc
  case assign =>
    rintro l pre x W K hI hG hK
    obtain ⟨A, c, hs⟩ := hG.1.shape
    obtain ⟨xv, xl, xn, xe⟩ := x
    simp only at hs
    subst hs
    simp only [encR]
    gi_wp2
    refine hK _ _ ((KeepsOthers.alloc _ _).from _) ((KpB.refl _ _).alloc (Nat.le_trans (by rw [HB.out]; exact Nat.le_refl _) hI.2.2.2.2.2.2.size) _) ?_ ?_ ?_
    · exact (allI_own B w HB.out (Nat.le_refl _)).alloc _ hI
    · exact recG_own (B := B) |>.alloc _ hG
    · exact ⟨W.heap.size, by have := hI.2.2.2.2.2.1.2.2; omega, Blk.new _ _ _, rfl⟩
  case body =>
    rintro l pre x a' W hl hI hG ⟨Bx, hBx, hblk, rfl⟩ hlen
    obtain ⟨A, c, hs⟩ := hG.1.shape
    obtain ⟨xv, xl, xn, xe⟩ := x
    simp only at hs
    subst hs
    have h1' : 1 ≤ n - 1 - 1 := by omega
    obtain ⟨⟨v, hv, hrow, -⟩, q4, q0, q1, q2, ⟨hsz, hgood, hW6⟩, hBel⟩ := hI
    have hm9 : xn ≤ 90000 := hG.2
    obtain ⟨Av, cv, rfl⟩ := ownsRow_shape hrow
    by_cases he : xe = 0
    · subst he
      have hne : ((0 : Int) != 0) = false := rfl
      have c3 := hv.cell
      have c4 := q4.cell
      have hblk0 : W.cell? ⟨Bx, 0, none⟩ = some (.slice A xl.length c) := by rw [hblk.cell]; rfl
      have hsz8 := Hid.out (Lib.hid hBel.size)
      rw [← HB.out] at hsz8
      have hk9 : pre.length ≤ 90000 := by omega
      have HSUM : Hid (((sizes pre : Int) + (xn : Int)) = ((sizes (pre ++ [⟨.slice A xl.length c, xl, xn, 0⟩]) : Nat) : Int)) := Lib.hid (by rw [sizes_snoc]; simp)
      have hs9 : sizes pre ≤ 8100000000 := by omega
      gi_wp2_with (gi_at_builtin; refine wpListIn_append_own _ rfl _ _ 37 rfl B 22 i0 (.slice none 0 0) 1 24 Tryd.underlying37 hi hz0 hz1 hz2 rfl (by decide) _ _ _ rfl (hrow.alloc _) ⟨W.heap.size, 0, none⟩ 1 1 [.slice A xl.length c] rfl rfl (cell_one_new _ _ _) (by simp [Value.oneCell']) (by unfold maxLen; omega) (by omega) (by simp; omega) ?_; intro v' w1 hown' hgrow _; obtain ⟨g', cap', rfl⟩ := ownsRow_succ hown'; obtain ⟨hv1, hv2, hr2, hk2, hb2⟩ := hv.appended (by decide) hrow hsz8 (by omega) hown' hgrow; have hc1 := hv1.cell; have hf1 := hv1.frozen; have q4' := (q4.alloc (.cells #[.slice A xl.length c] 22)).kept hgrow (q4.not_row (by decide) hrow); have hc4 := q4'.cell; have hf4 := q4'.frozen; have hblk' := (hblk.alloc (.cells #[.slice A xl.length c] 22)).grown hgrow (row_ne_blk hblk (by decide) hrow); have hcx : w1.cell? ⟨Bx, 1, none⟩ = some (.int .i64 (xn : Int)) := by (rw [hblk'.cell]; rfl))
      have q4W := q4'.other (B' := B + 3) (by omega) (.slice (some ⟨g', 0, none⟩) (pre.length + 1) cap')
      have hv3 := hv2.other (B' := B + 4) (by omega) (.int .i64 ((sizes pre : Int) + (xn : Int)))
      have q43 := q4W.set (.int .i64 ((sizes pre : Int) + (xn : Int)))
      have hr3 := hr2.kept (grownBy_setCell' _ (B + 4) (.int .i64 ((sizes pre : Int) + (xn : Int)))) (.inr (q4W.not_row (by decide) hr2).symm)
      have keep : ∀ {k t v}, Boxed W k t v → t ≠ 22 → k < B + 3 → Boxed ((w1.setCell ⟨B + 3, 0, none⟩ (.slice (some ⟨g', 0, none⟩) (pre.length + 1) cap')).setCell ⟨B + 4, 0, none⟩ (.int .i64 ((sizes pre : Int) + (xn : Int)))) k t v := fun h ht hk =>
        (((h.alloc (.cells #[.slice A xl.length c] 22)).kept hgrow (h.not_row ht hrow)).other (by omega) _).other (by omega) _
      have k1 : KpB B W (W.alloc (.cells #[.slice A xl.length c] 22)) := (KpB.refl B W).alloc hsz8 _
      have hgrow' : (W.alloc (.cells #[.slice A xl.length c] 22)).grownBy w1 (Value.slice Av pre.length cv).ownBlock := hgrow
      have k2 : KpB B (W.alloc (.cells #[.slice A xl.length c] 22)) w1 := KpB.grown hgrow' (by simp; omega) (fun k hk => by
        rcases (hrow.alloc (.cells #[.slice A xl.length c] 22)).2 with ⟨h, _⟩ | ⟨g, cap, cur, h, hg, hgb, _⟩
        · rw [h] at hk; simp [Value.ownBlock] at hk
        · rw [h] at hk
          obtain rfl : g = k := by simpa [Value.ownBlock] using hk
          refine ⟨hg, fun cs hcs => ?_⟩
          rw [hgb] at hcs
          injection hcs with hcs
          injection hcs with _ h2
          exact absurd h2 (by decide))
      have k3 := KpB.set (n₀ := B) (cs := #[.slice Av pre.length cv]) hv1 (by omega) (by decide) 0 (.slice (some ⟨g', 0, none⟩) (pre.length + 1) cap')
      have k4 := KpB.set (n₀ := B) (cs := #[.int .i64 (sizes pre : Int)]) q4W (by omega) (by decide) 0 (.int .i64 ((sizes pre : Int) + (xn : Int)))
      have kk := ((k1.trans k2).trans k3).trans k4
      rw [HSUM.out] at q43
      refine ⟨(hk2.trans (KeepsOthers.setCell _ _ _)).from _, kk, ⟨_, hv3, by simpa [vsOf] using hr3, trivial⟩, by rw [HSUM.out] at *; exact q43, keep q0 (by decide) (by omega), keep q1 (by decide) (by omega), keep q2 (by decide) (by omega), ⟨?_, ?_, ?_⟩, hBel.trans kk.1⟩
      · rw [sizes_snoc, List.length_append]; simp only [List.length_cons, List.length_nil]; omega
      · intro y hy
        rcases List.mem_append.1 hy with h | h
        · exact hgood y h
        · simp at h; rw [h]
      · exact Nat.le_trans hW6 kk.1.size
    · have hne : (xe != 0) = true := by simpa using he
      have c0 := q0.cell
      have c1 := q1.cell
      have c2 := q2.cell
      have c3 := hv.cell
      have c4 := q4.cell
      have f0 := q0.frozen
      have f1 := q1.frozen
      have f2 := q2.frozen
      have hmix : Tryd.prog.follows .mixedOrders = true := by kernel_rfl
      obtain ⟨z0, z1, z2, zr, zk, zp⟩ := stored3 (s := (sizes pre : Int)) (e := xe) q0 q1 q2 hrow _ rfl
      have HEND : Hid (leftM W6.heap.size (KpB B) (AllI B w) (AllX B w) (pre ++ [⟨.slice A xl.length c, xl, xn, xe⟩]) W .ret { tmps := #[], defers := [] } _) := Lib.hid ⟨zk.from _, zp, rfl,
        ⟨_, z0, by simpa [vsOf] using zr, trivial⟩, by simpa using z1, ⟨_, List.getLast?_concat, he, z2⟩, hBel.trans zp.1⟩
      clear z0 z1 z2 zr zk zp q0 q1 q2 q4 hv hrow hG hblk hgood
      gi_wp2
      gi_region_with_o (fail)
      all_goals gi_wp2
      all_goals exact HEND.out
  case done =>
    rintro D ys W hD ⟨hO, hS⟩ ⟨⟨v, hv, hrow, -⟩, q4, q0, q1, q2, ⟨hsz, hgood, hW6⟩, hBel⟩ hK
    have hs6' : B + 6 ≤ W6.heap.size := by have := HS6.out; omega
    have hch : Chain b ys [] := by
      rcases hS with h | ⟨ps, x, r, rfl, he, _⟩
      · exact h
      · exact absurd (hgood x (by simp)) he
    obtain ⟨Av, cv, rfl⟩ := ownsRow_shape hrow
    have c0 := q0.cell
    have c1 := q1.cell
    have c2 := q2.cell
    have c3 := hv.cell
    have c4 := q4.cell
    have f0 := q0.frozen
    have f1 := q1.frozen
    have f2 := q2.frozen
    have hmix : Tryd.prog.follows .mixedOrders = true := by kernel_rfl
    obtain ⟨z0, z1, z2, zr, zk, zp⟩ := stored3 (s := (sizes ys : Int)) (e := 0) q0 q1 q2 hrow _ rfl
    gi_wp2
    gi_region_with_o (fail)
    all_goals gi_wp2
    all_goals refine ⟨by simp, .inl ⟨_, _, rfl, run_takeDeferred (zk.same D _ hK rfl), ?_⟩⟩
    all_goals exact ⟨_, results3 (B := B) rfl rfl rfl (Boxed.kept z0 (grownBy_putObj' _ D _) (by intro h; injection h with h; omega)) (Boxed.kept z1 (grownBy_putObj' _ D _) (by intro h; injection h with h; omega)) (Boxed.kept z2 (grownBy_putObj' _ D _) (by intro h; injection h with h; omega)),
      all_post HB.out hch recs_nil hb9 (hO.kp zp) zr (hBel.trans zp.1) (by omega) (zk.same D _ hK rfl)⟩
  case stop =>
    rintro D c ys W hD ⟨hO, ps, x, r, rfl, hch, hr0, hg⟩ ⟨rfl, ⟨v, q0, hrow, -⟩, q1, ⟨x', hlast, he, q2⟩, hBel⟩ hK
    obtain rfl : x = x' := by simpa using hlast
    have hrr := recs_err hr0 hg he
    simp only [List.dropLast_concat, List.length_append, List.length_cons, List.length_nil, Nat.add_sub_cancel, Nat.zero_add] at hrow q1
    obtain ⟨Av, cv, rfl⟩ := ownsRow_shape hrow
    have hs6' : B + 6 ≤ W6.heap.size := by have := HS6.out; omega
    gi_wp2
    refine ⟨by simp, .inl ⟨_, _, rfl, run_takeDeferred hK, ?_⟩⟩
    exact ⟨_, results3 (B := B) rfl rfl rfl (Boxed.kept q0 (grownBy_putObj' _ D _) (by intro h; injection h with h; omega)) (Boxed.kept q1 (grownBy_putObj' _ D _) (by intro h; injection h with h; omega)) (Boxed.kept q2 (grownBy_putObj' _ D _) (by intro h; injection h with h; omega)),
      all_post HB.out hch hrr hb9 (fun y hy => hO y (by simp [hy])) hrow hBel (by omega) hK⟩

theorem allF_any (W0 : World) (hT0 : Tab W0) : AllFC W0 := by
  intro l w d v hB hr hl
  have hT := hT0.below hB
  have hlt := hT.lt
  obtain ⟨d', hd', hr'⟩ : ∃ d', d' < w.heap.size ∧ Rd w d' v l := by
    rcases Nat.eq_zero_or_pos l.length with h0 | h0
    · exact ⟨0, hlt, hr.block (List.eq_nil_of_length_eq_zero h0) _⟩
    · exact ⟨d, hr.lt h0, hr⟩
  exact (callsIn_wide (n := 9)).1 (all_in Fence.wide 9 trivial trivial trivial trivial rfl (by omega) l w d' v (fun s W u g1 g2 => callsIn_wide.2 (getO_any s W d' u g1 g2)) hT hr' hd' hl)

/-- PACKAGE FRAME ANSWERS AS IT IS TO, where its table is as the program's text lays it. -/
theorem frmC (W0 : World) (hT0 : Tab W0) : FrmC W0 :=
  ⟨fun l w d v hB hr _ => (sum_any l w d v hr (hT0.below hB)).mono fun r w' ⟨h1, h2⟩ => ⟨h1, by rw [← h2]; exact Below.refl _ _⟩, putF_any W0 hT0, getF_any W0 hT0, allF_any W0 hT0⟩

end Go.Proofs.YtepcaaejadeklaaDoor
