/- TrvJ -/
import Derived.Test.YthmobcaidhgeaaaAM20
set_option linter.unusedSimpArgs false
set_option linter.unusedVariables false
set_option maxRecDepth 100000
set_option maxHeartbeats 8000000
namespace Go.Proofs.Ythmobcaidhgeaaa
open Go.RowKit
theorem ix_some {p : NdD → Bool} : ∀ {f : NdF} {i : Nat}, ixP p f = some i → (∀ j, j < i → ∀ y, f.get? j = some y → p y.1 = false) ∧ ∃ y, f.get? i = some y ∧ p y.1 = true := by
 intro f
 induction f with
 | nil => intro i h; cases h
 | cons a k r _ ih =>
  intro i h
  simp only [ixP] at h
  split at h
  ·rename_i hp
   injection h with h
   subst h
   exact ⟨fun j hj => by omega, (a, k), rfl, hp⟩
  ·rename_i hp
   cases hr : ixP p r with
   | none => rw [hr] at h; cases h
   | some j =>
    rw [hr] at h
    simp only [Option.map_some, Option.some.injEq] at h
    subst h
    obtain ⟨h1, h2⟩ := ih hr
    refine ⟨fun k hk y hy => ?_, h2⟩
    cases k with
    | zero =>
     injection hy with hy
     subst hy
     simpa using hp
    | succ k => exact h1 k (by omega) y hy
theorem ix_none {p : NdD → Bool} : ∀ {f : NdF}, ixP p f = none → ∀ j y, f.get? j = some y → p y.1 = false := by
 intro f
 induction f with
 | nil => intro _ j y h; cases h
 | cons a k r _ ih =>
  intro h j y hy
  simp only [ixP] at h
  split at h
  ·cases h
  ·rename_i hp
   cases hr : ixP p r with
   | some i => rw [hr] at h; cases h
   | none =>
    cases j with
    | zero =>
     injection hy with hy
     subst hy
     simpa using hp
    | succ j => exact ih hr j y hy
theorem find_no9 {s : Stp} : ∀ {f : NdF}, findN s f = none → ∀ j y, f.get? j = some y → stp y.1 ≠ s := by
 intro f h j y hy
 rw [← ix_find] at h
 have := ix_none h j y hy
 simpa using this
theorem putF_is (f : NdF) (y : Nd) : putF f y = match gtF (stp y.1) f with | some _ => repF (stp y.1) y f | none => insF y f := by
 unfold putF
 cases hf : findN (stp y.1) f with
 | some i =>
  obtain ⟨z, -, -, h3⟩ := find_stp hf
  simp only
  rw [h3]
  simp only
  rw [← with_rep hf]
  unfold updF withF oneF
  rfl
 | none =>
  rw [findN_none hf]
  simp only
  have hne := find_no9 hf
  have tot : ∀ j z, f.get? j = some z → lessX y.1 z.1 = false → lessX z.1 y.1 = true := fun j z hz h => by
   rcases lessS_total (hne j z hz) with h1 | h1
   ·exact h1
   ·rw [show lessX y.1 z.1 = true from h1] at h; cases h
  cases hx : ixP (fun a => lessX y.1 a) f with
  | some i =>
   obtain ⟨h1, z, h2, h3⟩ := ix_some hx
   simp only
   rw [← with_ins, place_at (f := f) (i := i) (fun j hj z hz => tot j z hz (h1 j hj z hz)) (Nat.le_of_lt (Fr.get_lt h2)) (fun z' hz' => by
    rw [h2] at hz'
    injection hz' with hz'
    subst hz'
    exact lessS_asymm h3)]
  | none =>
   have h1 := ix_none hx
   simp only
   rw [← with_ins, place_at (f := f) (i := f.len) (fun j hj z hz => tot j z hz (h1 j z hz)) (Nat.le_refl _) (fun z hz => by
    have := Fr.get_lt hz
    omega)]
theorem upd_rep {s : Stp} {f : NdF} {i : Nat} {y : Nd} (h : findN s f = some i) : updF i y f = repF s y f := by
 rw [← with_rep h]
 unfold updF withF oneF
 rfl
theorem repl_set : ∀ (l : List Stp) (x p y : Nd) (s : Stp), getX x l = some p → s = stp y.1 → replX x l (p.1, putF p.2 y) = setX x (l ++ [s]) y := by
 intro l
 induction l with
 | nil =>
  intro x p y s h hs
  injection h with h
  subst h
  show (x.1, putF x.2 y) = setX x [s] y
  rw [set_one, putF_is, ← hs]
  cases gtF s x.2 <;> rfl
 | cons t l ih =>
  intro x p y s h hs
  cases hf : findN t x.2 with
  | none => rw [getX_none hf] at h; cases h
  | some i =>
   obtain ⟨z, hz, -, hg⟩ := find_stp hf
   rw [getX_some hf hz] at h
   have h2 := ih z p y s h hs
   obtain ⟨u, l', hl⟩ : ∃ u l', l ++ [s] = u :: l' := by cases l with | nil => exact ⟨s, [], rfl⟩ | cons u l => exact ⟨u, l ++ [s], rfl⟩
   show replX x (t :: l) _ = setX x (t :: (l ++ [s])) y
   rw [hl] at h2 ⊢
   rw [set_more, hg]
   simp only [replX]
   rw [hf]
   simp only
   rw [hz]
   simp only
   rw [h2, upd_rep hf]
theorem repl_cut : ∀ (l : List Stp) (x p : Nd) (s : Stp), getX x l = some p → replX x l (p.1, delF s p.2) = cutX x (l ++ [s]) := by
 intro l
 induction l with
 | nil =>
  intro x p s h
  injection h with h
  subst h
  exact cutX_one.symm
 | cons t l ih =>
  intro x p s h
  cases hf : findN t x.2 with
  | none => rw [getX_none hf] at h; cases h
  | some i =>
   obtain ⟨z, hz, -, hg⟩ := find_stp hf
   rw [getX_some hf hz] at h
   have h2 := ih z p s h
   obtain ⟨u, l', hl⟩ : ∃ u l', l ++ [s] = u :: l' := by cases l with | nil => exact ⟨s, [], rfl⟩ | cons u l => exact ⟨u, l ++ [s], rfl⟩
   show replX x (t :: l) _ = cutX x (t :: (l ++ [s]))
   rw [hl] at h2 ⊢
   rw [cut_more, hg]
   simp only [replX]
   rw [hf]
   simp only
   rw [hz]
   simp only
   rw [h2, upd_rep hf]
theorem dset_boxes (a y : NdD) (f yf : NdF) (A Ay : Option Addr) (c cy : Nat) (w : World) :
  Blk (((w.alloc (.cells (cN a (.slice A f.len c)) 27)).alloc (.cells (cN y (.slice Ay yf.len cy)) 27)).alloc (.cells #[.string ⟨#[]⟩, .string ⟨#[]⟩, .int .i64 0, .int .u64 0, .string ⟨#[]⟩, .slice none 0 0] 27)) w.heap.size 27 (cN a (.slice A f.len c)) ∧ Blk (((w.alloc (.cells (cN a (.slice A f.len c)) 27)).alloc (.cells (cN y (.slice Ay yf.len cy)) 27)).alloc (.cells #[.string ⟨#[]⟩, .string ⟨#[]⟩, .int .i64 0, .int .u64 0, .string ⟨#[]⟩, .slice none 0 0] 27)) (w.heap.size + 1) 27 (cN y (.slice Ay yf.len cy)) ∧ Blk (((w.alloc (.cells (cN a (.slice A f.len c)) 27)).alloc (.cells (cN y (.slice Ay yf.len cy)) 27)).alloc (.cells #[.string ⟨#[]⟩, .string ⟨#[]⟩, .int .i64 0, .int .u64 0, .string ⟨#[]⟩, .slice none 0 0] 27)) (w.heap.size + 2) 27 #[.string ⟨#[]⟩, .string ⟨#[]⟩, .int .i64 0, .int .u64 0, .string ⟨#[]⟩, .slice none 0 0] ∧ Below w.heap.size w (((w.alloc (.cells (cN a (.slice A f.len c)) 27)).alloc (.cells (cN y (.slice Ay yf.len cy)) 27)).alloc (.cells #[.string ⟨#[]⟩, .string ⟨#[]⟩, .int .i64 0, .int .u64 0, .string ⟨#[]⟩, .slice none 0 0] 27)) ∧ (((w.alloc (.cells (cN a (.slice A f.len c)) 27)).alloc (.cells (cN y (.slice Ay yf.len cy)) 27)).alloc (.cells #[.string ⟨#[]⟩, .string ⟨#[]⟩, .int .i64 0, .int .u64 0, .string ⟨#[]⟩, .slice none 0 0] 27)).heap.size = w.heap.size + 3 :=
 ⟨((Blk.new w 27 (cN a (.slice A f.len c))).alloc _).alloc _, (Blk.newA (by simp) 27 (cN y (.slice Ay yf.len cy))).alloc _, Blk.newA (by simp) 27 #[.string ⟨#[]⟩, .string ⟨#[]⟩, .int .i64 0, .int .u64 0, .string ⟨#[]⟩, .slice none 0 0], (bAl.alloc (by simp) _).alloc (by simp; omega) _, by simp⟩
theorem zero_tree {w w' : World} {e : Value} {g : Nat} (hb : Below w.heap.size w w') (hg : w.heap.size ≤ g) : TreP noN e w (.returned (.tuple #[.agg #[.string ⟨#[]⟩, .string ⟨#[]⟩, .int .i64 0, .int .u64 0, .string ⟨#[]⟩, .slice none 0 0], e])) (set6 w' g (.string ⟨#[]⟩) (.string ⟨#[]⟩) (.int .i64 0) (.int .u64 0) (.string ⟨#[]⟩) (.slice none 0 0)) :=
 ⟨_, rfl, OwnU.new (a := zeroT) (k := .nil) ⟨[], [], rfl, OwnK.nil _ _ _ _, rfl, rfl⟩, hb.trans (set6_below hg)⟩
theorem dset_nil (a y : NdD) (f yf : NdF) (A Ay B : Option Addr) (c cy m : Nat) (w : World) :
  Calls Try.prog 39 #[.agg (cN a (.slice A f.len c)), .slice B 0 m, .agg (cN y (.slice Ay yf.len cy))] w (TreP noN (.int .i64 1) w) := by
 obtain ⟨h1, h2, h3, h4, h5⟩ := dset_boxes a y f yf A Ay c cy w
 have HZD : Hid (Blk (((w.alloc (.cells (cN a (.slice A f.len c)) 27)).alloc (.cells (cN y (.slice Ay yf.len cy)) 27)).alloc (.cells #[.string ⟨#[]⟩, .string ⟨#[]⟩, .int .i64 0, .int .u64 0, .string ⟨#[]⟩, .slice none 0 0] 27)).drew (w.heap.size + 2) 27 #[.string ⟨#[]⟩, .string ⟨#[]⟩, .int .i64 0, .int .u64 0, .string ⟨#[]⟩, .slice none 0 0]) := hHd h3
 have HBD : Hid (Below w.heap.size w (((w.alloc (.cells (cN a (.slice A f.len c)) 27)).alloc (.cells (cN y (.slice Ay yf.len cy)) 27)).alloc (.cells #[.string ⟨#[]⟩, .string ⟨#[]⟩, .int .i64 0, .int .u64 0, .string ⟨#[]⟩, .slice none 0 0] 27)).drew) := hHd h4.drew
 clear h1 h2 h3 h4 h5
 go_enter Try.func39, Try.ntmps39
 go_wp2_with fail
 refine wp_region_noPanic ?_
 refine wp_region_held_drew (S := fun _ => True) (by kernel_rfl) trivial (fun hS => ?_)
 generalize (((w.alloc (.cells (cN a (.slice A f.len c)) 27)).alloc (.cells (cN y (.slice Ay yf.len cy)) 27)).alloc (.cells #[.string ⟨#[]⟩, .string ⟨#[]⟩, .int .i64 0, .int .u64 0, .string ⟨#[]⟩, .slice none 0 0] 27)).drew = wq at HZD HBD ⊢
 refine tkH 0 hS ?_
 refine tkH 1 hS ?_
 refine tkH 2 hS ?_
 refine tkHo 3 hS ?_
 refine tkHo 4 hS ?_
 refine tkHo 5 hS ?_
 refine tkHo 6 hS ?_
 refine tkHo 7 hS ?_
 refine tkHo 8 hS ?_
 refine tkHo 9 hS ?_
 refine tkH 10 hS ?_
 refine wpAnyH_done (by kernel_rfl) ?_ _
 refine NoPanic.normal ?_
 clear hS
 have fz0 : (wq).frozen? ⟨w.heap.size + 2, 0, none⟩ = false := HZD.out.frozen 0
 have fq0 := (HZD.out.cell 0).trans rfl
 have fz1 : (wq).frozen? ⟨w.heap.size + 2, 1, none⟩ = false := HZD.out.frozen 1
 have fq1 := (HZD.out.cell 1).trans rfl
 have fz2 : (wq).frozen? ⟨w.heap.size + 2, 2, none⟩ = false := HZD.out.frozen 2
 have fq2 := (HZD.out.cell 2).trans rfl
 have fz3 : (wq).frozen? ⟨w.heap.size + 2, 3, none⟩ = false := HZD.out.frozen 3
 have fq3 := (HZD.out.cell 3).trans rfl
 have fz4 : (wq).frozen? ⟨w.heap.size + 2, 4, none⟩ = false := HZD.out.frozen 4
 have fq4 := (HZD.out.cell 4).trans rfl
 have fz5 : (wq).frozen? ⟨w.heap.size + 2, 5, none⟩ = false := HZD.out.frozen 5
 have fq5 := (HZD.out.cell 5).trans rfl
 have RZ : Hid (Blk (set6 wq (w.heap.size + 2) (.string ⟨#[]⟩) (.string ⟨#[]⟩) (.int .i64 0) (.int .u64 0) (.string ⟨#[]⟩) (.slice none 0 0)) (w.heap.size + 2) 27 #[.string ⟨#[]⟩, .string ⟨#[]⟩, .int .i64 0, .int .u64 0, .string ⟨#[]⟩, .slice none 0 0]) := hHd (HZD.out.set6 _ _ _ _ _ _)
 have HQ : Hid (TreP noN (.int .i64 1) w (.returned (.tuple #[.agg #[.string ⟨#[]⟩, .string ⟨#[]⟩, .int .i64 0, .int .u64 0, .string ⟨#[]⟩, .slice none 0 0], .int .i64 1])) (set6 wq (w.heap.size + 2) (.string ⟨#[]⟩) (.string ⟨#[]⟩) (.int .i64 0) (.int .u64 0) (.string ⟨#[]⟩) (.slice none 0 0))) := hHd (zero_tree HBD.out (by omega))
 go_wp2
 refine bodyPost_ret (res_ct9 rfl _ _ (w.heap.size + 2) 27 _ (0, 0) _ rfl RZ.out Try.underlying27 rfl (by kernel_rfl)) rfl ?_
 exact HQ.out
theorem dset_arg (a y : NdD) (f yf : NdF) (A Ay B : Option Addr) (c cy m n : Nat) (l : List Stp) (sl : Stp) (w : World) (hv : WayV w.heap.size w (.slice B (n + 1) m) l) (hs : l[n]? = some sl) (hll : l.length ≤ 1000000) (hne : stp y ≠ sl) :
  Calls Try.prog 39 #[.agg (cN a (.slice A f.len c)), .slice B (n + 1) m, .agg (cN y (.slice Ay yf.len cy))] w (TreP noN (.int .i64 1) w) := by
 obtain ⟨h1, h2, h3, h4, h5⟩ := dset_boxes a y f yf A Ay c cy w
 obtain ⟨gv, ov, rfl, hvn, hvm, hgv, ht0, ht1⟩ := hv.at hs
 have hn : l.length = n + 1 := hvn.symm
 have HQ0 : Hid (Blk (((w.alloc (.cells (cN a (.slice A f.len c)) 27)).alloc (.cells (cN y (.slice Ay yf.len cy)) 27)).alloc (.cells #[.string ⟨#[]⟩, .string ⟨#[]⟩, .int .i64 0, .int .u64 0, .string ⟨#[]⟩, .slice none 0 0] 27)).drew w.heap.size 27 (cN a (.slice A f.len c)) ∧ Blk (((w.alloc (.cells (cN a (.slice A f.len c)) 27)).alloc (.cells (cN y (.slice Ay yf.len cy)) 27)).alloc (.cells #[.string ⟨#[]⟩, .string ⟨#[]⟩, .int .i64 0, .int .u64 0, .string ⟨#[]⟩, .slice none 0 0] 27)).drew (w.heap.size + 1) 27 (cN y (.slice Ay yf.len cy)) ∧ Blk (((w.alloc (.cells (cN a (.slice A f.len c)) 27)).alloc (.cells (cN y (.slice Ay yf.len cy)) 27)).alloc (.cells #[.string ⟨#[]⟩, .string ⟨#[]⟩, .int .i64 0, .int .u64 0, .string ⟨#[]⟩, .slice none 0 0] 27)).drew (w.heap.size + 2) 27 #[.string ⟨#[]⟩, .string ⟨#[]⟩, .int .i64 0, .int .u64 0, .string ⟨#[]⟩, .slice none 0 0] ∧ w.heap.size + 3 ≤ (((w.alloc (.cells (cN a (.slice A f.len c)) 27)).alloc (.cells (cN y (.slice Ay yf.len cy)) 27)).alloc (.cells #[.string ⟨#[]⟩, .string ⟨#[]⟩, .int .i64 0, .int .u64 0, .string ⟨#[]⟩, .slice none 0 0] 27)).drew.heap.size) := hHd ⟨h1, h2, h3, Nat.le_of_eq h5.symm⟩
 have HBD : Hid (Below w.heap.size w (((w.alloc (.cells (cN a (.slice A f.len c)) 27)).alloc (.cells (cN y (.slice Ay yf.len cy)) 27)).alloc (.cells #[.string ⟨#[]⟩, .string ⟨#[]⟩, .int .i64 0, .int .u64 0, .string ⟨#[]⟩, .slice none 0 0] 27)).drew) := hHd h4.drew
 have HWAY : Hid (∀ W, Below w.heap.size w W → W.cell? ⟨gv, ov + n * 2, none⟩ = some (.string (txt sl.1)) ∧ W.cell? ⟨gv, ov + n * 2 + 1, none⟩ = some (.string (txt sl.2))) := hHd (fun W hW => ⟨(hW.cell (p := ⟨gv, ov + n * 2, none⟩) hgv).trans ht0, (hW.cell (p := ⟨gv, ov + n * 2 + 1, none⟩) hgv).trans ht1⟩)
 have HV := hHd hv
 have HLN := hHd (And.intro hn hll)
 have i1 : (0 : Int) ≤ (n : Int) := by omega
 have i2 : (n : Int) ≤ 1000000 := by omega
 have i3 : (n : Int) < (n : Int) + 1 := by omega
 have i4 : decide ((n : Int) < 0) = false := decide_eq_false (by omega)
 have i5 : ¬ (n : Int) < 0 := by omega
 have i6 : (n : Int) ≤ (m : Int) := by omega
 have HE : Hid (∀ (α : Type) (R1 R0 : α), (if (txt y.name).toList = (txt sl.1).toList then if (txt y.key).toList = (txt sl.2).toList then R1 else R0 else R0) = R0) := hHd (by
  intro α R1 R0
  simp only [txt_toList]
  split
  ·split
   ·exact absurd (Prod.ext ‹_› ‹_›) hne
   ·rfl
  ·rfl)
 clear h1 h2 h3 h4 h5 hv hs hll hne hvn hvm hgv ht0 ht1 hn
 go_enter Try.func39, Try.ntmps39
 go_wp2_with fail
 refine wp_region_noPanic ?_
 refine wp_region_held_drew (S := fun _ => True) (by kernel_rfl) trivial (fun hS => ?_)
 generalize (((w.alloc (.cells (cN a (.slice A f.len c)) 27)).alloc (.cells (cN y (.slice Ay yf.len cy)) 27)).alloc (.cells #[.string ⟨#[]⟩, .string ⟨#[]⟩, .int .i64 0, .int .u64 0, .string ⟨#[]⟩, .slice none 0 0] 27)).drew = wq at HQ0 HBD ⊢
 refine held_more (S' := fun w' => Blk w' (w.heap.size + 1) 27 (cN y (.slice Ay yf.len cy)) ∧ (w'.cell? ⟨gv, ov + n * 2, none⟩ = some (.string (txt sl.1)) ∧ w'.cell? ⟨gv, ov + n * 2 + 1, none⟩ = some (.string (txt sl.2)))) (fun _ _ => trivial) _ _ _ _ ?_
 replace hS := And.intro HQ0.out.2.1 (HWAY.out _ HBD.out)
 refine tkH 0 hS ?_
 refine tkH 1 hS ?_
 refine tkH 2 hS ?_
 refine tkH 3 hS ?_ (hy := fun w hSw => by obtain ⟨q0, q1, q2, q3, q4, q5⟩ := cl6 hSw.1; (go_simp <;> with_reducible rfl))
 refine tkH 5 hS ?_
 refine tkH 6 hS ?_
 refine tkH 7 hS ?_
 refine tkH 8 hS ?_ (hy := fun w hSw => by have q0 := hSw.2.1; have q1 := hSw.2.2; (go_simp <;> with_reducible rfl))
 refine rdy1 4 fun K hK => ?_
 go_simp
 refine (stepof_any y (.slice Ay yf.len cy) _).mono ?_
 rintro r w2 ⟨rfl, hb2⟩
 have HQ2 := hHd (And.intro (HQ0.out.1.below hb2 HQ0.out.1.lt) (And.intro (HQ0.out.2.1.below hb2 HQ0.out.2.1.lt) (And.intro (HQ0.out.2.2.1.below hb2 HQ0.out.2.2.1.lt) (Nat.le_trans HQ0.out.2.2.2 hb2.size))))
 have HB2 := hHd (HBD.out.trans (hb2.mono HBD.out.size))
 clear hb2
 go_wp2_with fail
 refine hK.out _ _ ?sr_0 (fun hS => ?_)
 case sr_0 => (exact ⟨HQ2.out.2.1, HWAY.out _ HB2.out⟩)
 clear hK K
 (try simp only [Act.put, layS])
 refine tkH 9 hS ?_ (hy := fun w hSw => by have he := HE.out; (go_simp <;> with_reducible rfl))
 refine tkH 10 hS ?_
 refine wpAnyH_done (by kernel_rfl) ?_ _
 refine NoPanic.normal ?_
 clear hS
 have HZ2 := hHd HQ2.out.2.2.1
 have fz0 : (w2).frozen? ⟨w.heap.size + 2, 0, none⟩ = false := HZ2.out.frozen 0
 have fq0 := (HZ2.out.cell 0).trans rfl
 have fz1 : (w2).frozen? ⟨w.heap.size + 2, 1, none⟩ = false := HZ2.out.frozen 1
 have fq1 := (HZ2.out.cell 1).trans rfl
 have fz2 : (w2).frozen? ⟨w.heap.size + 2, 2, none⟩ = false := HZ2.out.frozen 2
 have fq2 := (HZ2.out.cell 2).trans rfl
 have fz3 : (w2).frozen? ⟨w.heap.size + 2, 3, none⟩ = false := HZ2.out.frozen 3
 have fq3 := (HZ2.out.cell 3).trans rfl
 have fz4 : (w2).frozen? ⟨w.heap.size + 2, 4, none⟩ = false := HZ2.out.frozen 4
 have fq4 := (HZ2.out.cell 4).trans rfl
 have fz5 : (w2).frozen? ⟨w.heap.size + 2, 5, none⟩ = false := HZ2.out.frozen 5
 have fq5 := (HZ2.out.cell 5).trans rfl
 have RZ : Hid (Blk (set6 w2 (w.heap.size + 2) (.string ⟨#[]⟩) (.string ⟨#[]⟩) (.int .i64 0) (.int .u64 0) (.string ⟨#[]⟩) (.slice none 0 0)) (w.heap.size + 2) 27 #[.string ⟨#[]⟩, .string ⟨#[]⟩, .int .i64 0, .int .u64 0, .string ⟨#[]⟩, .slice none 0 0]) := hHd (HZ2.out.set6 _ _ _ _ _ _)
 have HQ : Hid (TreP noN (.int .i64 1) w (.returned (.tuple #[.agg #[.string ⟨#[]⟩, .string ⟨#[]⟩, .int .i64 0, .int .u64 0, .string ⟨#[]⟩, .slice none 0 0], .int .i64 1])) (set6 w2 (w.heap.size + 2) (.string ⟨#[]⟩) (.string ⟨#[]⟩) (.int .i64 0) (.int .u64 0) (.string ⟨#[]⟩) (.slice none 0 0))) := hHd (zero_tree HB2.out (by omega))
 go_wp2
 refine bodyPost_ret (res_ct9 rfl _ _ (w.heap.size + 2) 27 _ (0, 0) _ rfl RZ.out Try.underlying27 rfl (by kernel_rfl)) rfl ?_
 exact HQ.out
def SetR (a y : NdD) (f yf : NdF) (l : List Stp) (w : World) (r : Ending) (w' : World) : Prop := TreP (SetX (a, f) l (y, yf)).1 (.int .i64 ((SetX (a, f) l (y, yf)).2 : Int)) w r w'
theorem setR_no {a y : NdD} {f yf : NdF} {l : List Stp} {w w' : World} {r : Ending} (hl : l.getLast? = some (stp y)) (h : getX (a, f) l.dropLast = none ∨ ∃ p, getX (a, f) l.dropLast = some p ∧ p.1.kind ≠ 0) (hT : TreP noN (.int .i64 30) w r w') : SetR a y f yf l w r w' := by
 have e : SetX (a, f) l (y, yf) = (noN, 30) := by
  unfold SetX
  rw [if_neg (by simpa using hl)]
  rcases h with h | ⟨p, h, hk⟩
  ·rw [h]
  ·rw [h]
   simp only
   rw [if_pos hk]
 unfold SetR
 rw [e]
 exact hT
theorem setR_ok {a y : NdD} {f yf : NdF} {l : List Stp} {p : Nd} {w w' : World} {r : Ending} (hl : l.getLast? = some (stp y)) (h : getX (a, f) l.dropLast = some p) (hk : p.1.kind = 0) (hT : TreP (setX (a, f) l (y, yf)) (.int .i64 0) w r w') : SetR a y f yf l w r w' := by
 have e : SetX (a, f) l (y, yf) = (setX (a, f) l (y, yf), 0) := by
  unfold SetX
  rw [if_neg (by simpa using hl), h]
  simp only
  rw [if_neg (by simpa using hk)]
 unfold SetR
 rw [e]
 exact hT
theorem dset_go (a y : NdD) (f yf : NdF) (A Ay B : Option Addr) (c cy m n : Nat) (l : List Stp) (sl : Stp) (w : World) (hk : RowT w.heap.size w (.slice A f.len c) f) (hky : RowT w.heap.size w (.slice Ay yf.len cy) yf) (hf : f.size ≤ 1000000) (hyf : yf.size ≤ 1000000) (hv : WayV w.heap.size w (.slice B (n + 1) m) l) (hs : l[n]? = some sl) (hll : l.length ≤ 1000000) (heq : stp y = sl) :
  Calls Try.prog 39 #[.agg (cN a (.slice A f.len c)), .slice B (n + 1) m, .agg (cN y (.slice Ay yf.len cy))] w (SetR a y f yf l w) := by
 obtain ⟨h1, h2, h3, h4, h5⟩ := dset_boxes a y f yf A Ay c cy w
 obtain ⟨gv, ov, rfl, hvn, hvm, hgv, ht0, ht1⟩ := hv.at hs
 have hn : l.length = n + 1 := hvn.symm
 have HQ0 : Hid (Blk (((w.alloc (.cells (cN a (.slice A f.len c)) 27)).alloc (.cells (cN y (.slice Ay yf.len cy)) 27)).alloc (.cells #[.string ⟨#[]⟩, .string ⟨#[]⟩, .int .i64 0, .int .u64 0, .string ⟨#[]⟩, .slice none 0 0] 27)).drew w.heap.size 27 (cN a (.slice A f.len c)) ∧ Blk (((w.alloc (.cells (cN a (.slice A f.len c)) 27)).alloc (.cells (cN y (.slice Ay yf.len cy)) 27)).alloc (.cells #[.string ⟨#[]⟩, .string ⟨#[]⟩, .int .i64 0, .int .u64 0, .string ⟨#[]⟩, .slice none 0 0] 27)).drew (w.heap.size + 1) 27 (cN y (.slice Ay yf.len cy)) ∧ Blk (((w.alloc (.cells (cN a (.slice A f.len c)) 27)).alloc (.cells (cN y (.slice Ay yf.len cy)) 27)).alloc (.cells #[.string ⟨#[]⟩, .string ⟨#[]⟩, .int .i64 0, .int .u64 0, .string ⟨#[]⟩, .slice none 0 0] 27)).drew (w.heap.size + 2) 27 #[.string ⟨#[]⟩, .string ⟨#[]⟩, .int .i64 0, .int .u64 0, .string ⟨#[]⟩, .slice none 0 0] ∧ w.heap.size + 3 ≤ (((w.alloc (.cells (cN a (.slice A f.len c)) 27)).alloc (.cells (cN y (.slice Ay yf.len cy)) 27)).alloc (.cells #[.string ⟨#[]⟩, .string ⟨#[]⟩, .int .i64 0, .int .u64 0, .string ⟨#[]⟩, .slice none 0 0] 27)).drew.heap.size) := hHd ⟨h1, h2, h3, Nat.le_of_eq h5.symm⟩
 have HBD : Hid (Below w.heap.size w (((w.alloc (.cells (cN a (.slice A f.len c)) 27)).alloc (.cells (cN y (.slice Ay yf.len cy)) 27)).alloc (.cells #[.string ⟨#[]⟩, .string ⟨#[]⟩, .int .i64 0, .int .u64 0, .string ⟨#[]⟩, .slice none 0 0] 27)).drew) := hHd h4.drew
 have HWAY : Hid (∀ W, Below w.heap.size w W → W.cell? ⟨gv, ov + n * 2, none⟩ = some (.string (txt sl.1)) ∧ W.cell? ⟨gv, ov + n * 2 + 1, none⟩ = some (.string (txt sl.2))) := hHd (fun W hW => ⟨(hW.cell (p := ⟨gv, ov + n * 2, none⟩) hgv).trans ht0, (hW.cell (p := ⟨gv, ov + n * 2 + 1, none⟩) hgv).trans ht1⟩)
 have HV := hHd hv
 have HLN := hHd (And.intro hn hll)
 have i1 : (0 : Int) ≤ (n : Int) := by omega
 have i2 : (n : Int) ≤ 1000000 := by omega
 have i3 : (n : Int) < (n : Int) + 1 := by omega
 have i4 : decide ((n : Int) < 0) = false := decide_eq_false (by omega)
 have i5 : ¬ (n : Int) < 0 := by omega
 have i6 : (n : Int) ≤ (m : Int) := by omega
 have e1 : (txt y.name).toList = (txt sl.1).toList := by rw [← heq]; rfl
 have e2 : (txt y.key).toList = (txt sl.2).toList := by rw [← heq]; rfl
 have E12 := hHd (And.intro e1 e2)
 have HCN : Hid (∀ W, Below w.heap.size w W → Calls Try.prog 35 #[.agg (cN a (.slice A f.len c))] W (CopP a f W)) := hHd (fun W hW => copy_any f a A c W (hk.under hW (Nat.le_refl _) hW.size) hf)
 have HCY : Hid (∀ W, Below w.heap.size w W → Calls Try.prog 35 #[.agg (cN y (.slice Ay yf.len cy))] W (CopP y yf W)) := hHd (fun W hW => copy_any yf y Ay cy W (hky.under hW (Nat.le_refl _) hW.size) hyf)
 have hlast : l.getLast? = some (stp y) := by
  rw [List.getLast?_eq_getElem?, hn, Nat.add_sub_cancel, hs, heq]
 have hdl : l.dropLast = l.take n := by rw [List.dropLast_eq_take, hn, Nat.add_sub_cancel]
 have hll2 : l = l.take n ++ [sl] := by
  have h1 := List.take_append_drop n l
  have h2 : l.drop n = [sl] := by
   rw [List.drop_eq_getElem_cons (by omega), List.drop_eq_nil_of_le (by omega)]
   rw [List.getElem?_eq_getElem (by omega)] at hs
   injection hs with hs
   rw [hs]
  rw [h2] at h1
  exact h1.symm
 have HLAST := hHd hlast
 have HDL := hHd hdl
 have HLL2 := hHd hll2
 have HEQ := hHd heq
 have HF := hHd hf
 have hvf := WayV.front n (by omega) hv
 have HVF : Hid (∀ W, Below w.heap.size w W → WayV W.heap.size W (.slice (some ⟨gv, ov, none⟩) n m) (l.take n)) := hHd (fun W hW => hvf.under hW (Nat.le_refl _) hW.size)
 have HTL : Hid ((l.take n).length ≤ 1000000) := hHd (by rw [List.length_take]; omega)
 clear h1 h2 h3 h4 h5 hv hs hll heq hvn hvm hgv ht0 ht1 hn e1 e2 hk hky hf hyf hlast hdl hll2 hvf
 go_enter Try.func39, Try.ntmps39
 go_wp2_with fail
 refine wp_region_noPanic ?_
 refine wp_region_held_drew (S := fun _ => True) (by kernel_rfl) trivial (fun hS => ?_)
 generalize (((w.alloc (.cells (cN a (.slice A f.len c)) 27)).alloc (.cells (cN y (.slice Ay yf.len cy)) 27)).alloc (.cells #[.string ⟨#[]⟩, .string ⟨#[]⟩, .int .i64 0, .int .u64 0, .string ⟨#[]⟩, .slice none 0 0] 27)).drew = wq at HQ0 HBD ⊢
 refine held_more (S' := fun w' => Blk w' (w.heap.size + 1) 27 (cN y (.slice Ay yf.len cy)) ∧ (w'.cell? ⟨gv, ov + n * 2, none⟩ = some (.string (txt sl.1)) ∧ w'.cell? ⟨gv, ov + n * 2 + 1, none⟩ = some (.string (txt sl.2)))) (fun _ _ => trivial) _ _ _ _ ?_
 replace hS := And.intro HQ0.out.2.1 (HWAY.out _ HBD.out)
 refine tkH 0 hS ?_
 refine tkH 1 hS ?_
 refine tkH 2 hS ?_
 refine tkH 3 hS ?_ (hy := fun w hSw => by obtain ⟨q0, q1, q2, q3, q4, q5⟩ := cl6 hSw.1; (go_simp <;> with_reducible rfl))
 refine tkH 5 hS ?_
 refine tkH 6 hS ?_
 refine tkH 7 hS ?_
 refine tkH 8 hS ?_ (hy := fun w hSw => by have q0 := hSw.2.1; have q1 := hSw.2.2; (go_simp <;> with_reducible rfl))
 refine rdy1 4 fun K hK => ?_
 go_simp
 refine (stepof_any y (.slice Ay yf.len cy) _).mono ?_
 rintro r w2 ⟨rfl, hb2⟩
 have HQ2 := hHd (And.intro (HQ0.out.1.below hb2 HQ0.out.1.lt) (And.intro (HQ0.out.2.1.below hb2 HQ0.out.2.1.lt) (And.intro (HQ0.out.2.2.1.below hb2 HQ0.out.2.2.1.lt) (Nat.le_trans HQ0.out.2.2.2 hb2.size))))
 have HB2 := hHd (HBD.out.trans (hb2.mono HBD.out.size))
 clear hb2
 go_wp2_with fail
 refine hK.out _ _ ?sr_1 (fun hS => ?_)
 case sr_1 => (exact ⟨HQ2.out.2.1, HWAY.out _ HB2.out⟩)
 clear hK K
 (try simp only [Act.put, layS])
 refine tkH 9 hS ?_ (hy := fun w hSw => by have e1 := E12.out.1; have e2 := E12.out.2; (go_simp <;> with_reducible rfl))
 refine tkH 10 hS ?_
 refine wpAnyH_done (by kernel_rfl) ?_ _
 refine NoPanic.normal ?_
 clear hS
 obtain ⟨q0, q1, q2, q3, q4, q5⟩ := cl6 HQ2.out.1
 go_wp2_with fail
 refine (HCN.out w2 HB2.out).mono ?_
 rintro r w3 ⟨v1, F1, rfl, hU, hnd, hb3⟩
 obtain ⟨A1, c1, rfl⟩ := hU.shape
 have HX3 := hHd (HQ2.out.1.below hb3 HQ2.out.1.lt)
 have HQ3 : Hid (Blk (set6 w3 w.heap.size (.string (txt a.name)) (.string (txt a.key)) (.int .i64 a.kind) (.int .u64 (a.num : Int)) (.string (txt a.text)) (.slice A1 f.len c1)) w.heap.size 27 (cN a (.slice A1 f.len c1)) ∧ Blk (set6 w3 w.heap.size (.string (txt a.name)) (.string (txt a.key)) (.int .i64 a.kind) (.int .u64 (a.num : Int)) (.string (txt a.text)) (.slice A1 f.len c1)) (w.heap.size + 1) 27 (cN y (.slice Ay yf.len cy)) ∧ Blk (set6 w3 w.heap.size (.string (txt a.name)) (.string (txt a.key)) (.int .i64 a.kind) (.int .u64 (a.num : Int)) (.string (txt a.text)) (.slice A1 f.len c1)) (w.heap.size + 2) 27 #[.string ⟨#[]⟩, .string ⟨#[]⟩, .int .i64 0, .int .u64 0, .string ⟨#[]⟩, .slice none 0 0] ∧ w.heap.size + 3 ≤ (set6 w3 w.heap.size (.string (txt a.name)) (.string (txt a.key)) (.int .i64 a.kind) (.int .u64 (a.num : Int)) (.string (txt a.text)) (.slice A1 f.len c1)).heap.size) := hHd ⟨HX3.out.set6 _ _ _ _ _ _,
  (set6_other (by omega)).trans (HQ2.out.2.1.below hb3 HQ2.out.2.1.lt), (set6_other (by omega)).trans (HQ2.out.2.2.1.below hb3 HQ2.out.2.2.1.lt), by rw [set6_size]; exact Nat.le_trans HQ2.out.2.2.2 hb3.size⟩
 have HB3 : Hid (Below w.heap.size w (set6 w3 w.heap.size (.string (txt a.name)) (.string (txt a.key)) (.int .i64 a.kind) (.int .u64 (a.num : Int)) (.string (txt a.text)) (.slice A1 f.len c1))) := hHd ((HB2.out.trans (hb3.mono HB2.out.size)).trans (set6_below (Nat.le_refl _)))
 have hF1 : ∀ h, h ∈ F1 → w.heap.size + 3 ≤ h := fun h hh => Nat.le_trans HQ2.out.2.2.2 (hU.fresh h hh).1
 have HU3 : Hid (OwnU (set6 w3 w.heap.size (.string (txt a.name)) (.string (txt a.key)) (.int .i64 a.kind) (.int .u64 (a.num : Int)) (.string (txt a.text)) (.slice A1 f.len c1)) w.heap.size (.slice A1 f.len c1) f F1) := hHd (hU.keep (fun h hh => set6_other (by have := hF1 h hh; omega)) HB2.out.size)
 have HF1 := hHd hF1
 have HND := hHd hnd
 have HAT : Hid (Calls Try.prog 34 #[.pointer (some ⟨w.heap.size, 0, none⟩), .slice (some ⟨gv, ov, none⟩) n m] (set6 w3 w.heap.size (.string (txt a.name)) (.string (txt a.key)) (.int .i64 a.kind) (.int .u64 (a.num : Int)) (.string (txt a.text)) (.slice A1 f.len c1)) (AtP (a, f) (l.take n) w.heap.size 0 (set6 w3 w.heap.size (.string (txt a.name)) (.string (txt a.key)) (.int .i64 a.kind) (.int .u64 (a.num : Int)) (.string (txt a.text)) (.slice A1 f.len c1)))) := hHd
  (at_any (a, f) (l.take n) w.heap.size 0 _ (set6 w3 w.heap.size (.string (txt a.name)) (.string (txt a.key)) (.int .i64 a.kind) (.int .u64 (a.num : Int)) (.string (txt a.text)) (.slice A1 f.len c1)) (node_box HQ3.out.1 (LieB.row (HU3.out.lies (a := a)))) (HVF.out _ HB3.out) HF.out HTL.out)
 have fz0 : (w3).frozen? ⟨w.heap.size, 0, none⟩ = false := HX3.out.frozen 0
 have fq0 := (HX3.out.cell 0).trans rfl
 have fz1 : (w3).frozen? ⟨w.heap.size, 1, none⟩ = false := HX3.out.frozen 1
 have fq1 := (HX3.out.cell 1).trans rfl
 have fz2 : (w3).frozen? ⟨w.heap.size, 2, none⟩ = false := HX3.out.frozen 2
 have fq2 := (HX3.out.cell 2).trans rfl
 have fz3 : (w3).frozen? ⟨w.heap.size, 3, none⟩ = false := HX3.out.frozen 3
 have fq3 := (HX3.out.cell 3).trans rfl
 have fz4 : (w3).frozen? ⟨w.heap.size, 4, none⟩ = false := HX3.out.frozen 4
 have fq4 := (HX3.out.cell 4).trans rfl
 have fz5 : (w3).frozen? ⟨w.heap.size, 5, none⟩ = false := HX3.out.frozen 5
 have fq5 := (HX3.out.cell 5).trans rfl
 clear hU hnd hb3 hF1 q0 q1 q2 q3 q4 q5
 go_wp2_with fail
 refine HAT.out.mono ?_
 rintro r w4 ⟨hb4, hcase⟩
 have HQ4 : Hid (Blk w4 (w.heap.size + 1) 27 (cN y (.slice Ay yf.len cy)) ∧ Blk w4 (w.heap.size + 2) 27 #[.string ⟨#[]⟩, .string ⟨#[]⟩, .int .i64 0, .int .u64 0, .string ⟨#[]⟩, .slice none 0 0] ∧ w.heap.size + 3 ≤ w4.heap.size) := hHd ⟨HQ3.out.2.1.below hb4 HQ3.out.2.1.lt, HQ3.out.2.2.1.below hb4 HQ3.out.2.2.1.lt, Nat.le_trans HQ3.out.2.2.2 hb4.size⟩
 have HB4 := hHd (HB3.out.trans (hb4.mono HB3.out.size))
 clear fz0 fz1 fz2 fz3 fz4 fz5 fq0 fq1 fq2 fq3 fq4 fq5
 rcases hcase with ⟨hno, rfl⟩ | ⟨⟨pa, pf⟩, g', o', hy, rfl, hnd, hpat⟩
 ·have HNO : Hid (getX (a, f) l.dropLast = none) := hHd (by rw [HDL.out]; exact hno)
  have HZ4 := hHd HQ4.out.2.1
  clear hno hb4
  have fz0 : (w4).frozen? ⟨w.heap.size + 2, 0, none⟩ = false := HZ4.out.frozen 0
  have fq0 := (HZ4.out.cell 0).trans rfl
  have fz1 : (w4).frozen? ⟨w.heap.size + 2, 1, none⟩ = false := HZ4.out.frozen 1
  have fq1 := (HZ4.out.cell 1).trans rfl
  have fz2 : (w4).frozen? ⟨w.heap.size + 2, 2, none⟩ = false := HZ4.out.frozen 2
  have fq2 := (HZ4.out.cell 2).trans rfl
  have fz3 : (w4).frozen? ⟨w.heap.size + 2, 3, none⟩ = false := HZ4.out.frozen 3
  have fq3 := (HZ4.out.cell 3).trans rfl
  have fz4 : (w4).frozen? ⟨w.heap.size + 2, 4, none⟩ = false := HZ4.out.frozen 4
  have fq4 := (HZ4.out.cell 4).trans rfl
  have fz5 : (w4).frozen? ⟨w.heap.size + 2, 5, none⟩ = false := HZ4.out.frozen 5
  have fq5 := (HZ4.out.cell 5).trans rfl
  have RZ : Hid (Blk (set6 w4 (w.heap.size + 2) (.string ⟨#[]⟩) (.string ⟨#[]⟩) (.int .i64 0) (.int .u64 0) (.string ⟨#[]⟩) (.slice none 0 0)) (w.heap.size + 2) 27 #[.string ⟨#[]⟩, .string ⟨#[]⟩, .int .i64 0, .int .u64 0, .string ⟨#[]⟩, .slice none 0 0]) := hHd (HZ4.out.set6 _ _ _ _ _ _)
  have HQ : Hid (SetR a y f yf l w (.returned (.tuple #[.agg #[.string ⟨#[]⟩, .string ⟨#[]⟩, .int .i64 0, .int .u64 0, .string ⟨#[]⟩, .slice none 0 0], .int .i64 30])) (set6 w4 (w.heap.size + 2) (.string ⟨#[]⟩) (.string ⟨#[]⟩) (.int .i64 0) (.int .u64 0) (.string ⟨#[]⟩) (.slice none 0 0))) := hHd (setR_no HLAST.out (.inl HNO.out) (zero_tree HB4.out (by omega)))
  go_wp2
  refine bodyPost_ret (res_ct9 rfl _ _ (w.heap.size + 2) 27 _ (0, 0) _ rfl RZ.out Try.underlying27 rfl (by kernel_rfl)) rfl ?_
  exact HQ.out
 ·have hcl1 : ∀ j u, (ndC a (.slice A1 f.len c1))[j]? = some u → (set6 w3 w.heap.size (.string (txt a.name)) (.string (txt a.key)) (.int .i64 a.kind) (.int .u64 (a.num : Int)) (.string (txt a.text)) (.slice A1 f.len c1)).cell? ⟨w.heap.size, 0 + j, none⟩ = some u := fun j u hu => by
   rw [Nat.zero_add, HQ3.out.1.cell]; simpa using hu
  obtain ⟨Fy, k1, k2, k3, k4, k5, k6⟩ := zip_any (set6 w3 w.heap.size (.string (txt a.name)) (.string (txt a.key)) (.int .i64 a.kind) (.int .u64 (a.num : Int)) (.string (txt a.text)) (.slice A1 f.len c1)) w.heap.size (l.take n) (a, f) (pa, pf) w.heap.size 0 g' o' F1 ⟨_, hcl1, HU3.out⟩ HND.out (fun hm => by have := HF1.out _ hm; omega) HQ3.out.1.lt hy hpat
  have hgne : g' ≠ w.heap.size + 1 ∧ g' ≠ w.heap.size + 2 ∧ w.heap.size ≤ g' ∧ g' < (set6 w3 w.heap.size (.string (txt a.name)) (.string (txt a.key)) (.int .i64 a.kind) (.int .u64 (a.num : Int)) (.string (txt a.text)) (.slice A1 f.len c1)).heap.size := by
   rcases k5 with ⟨e, -⟩ | h
   ·have := HQ3.out.1.lt; exact ⟨by omega, by omega, by omega, by omega⟩
   ·have := HF1.out _ h; have := (HU3.out.fresh g' h).lt; exact ⟨by omega, by omega, by omega, by omega⟩
  have hgfr : Fresh9 w.heap.size (set6 w3 w.heap.size (.string (txt a.name)) (.string (txt a.key)) (.int .i64 a.kind) (.int .u64 (a.num : Int)) (.string (txt a.text)) (.slice A1 f.len c1)) g' := by
   rcases k5 with ⟨e, -⟩ | h
   ·rw [e]; exact ⟨Nat.le_refl _, _, _, HQ3.out.1⟩
   ·exact HU3.out.fresh g' h
  have hpsz : pf.len ≤ 1000000 := by
   have h1 := get_size (l.take n) (a, f) (pa, pf) hy
   have h2 := HF.out
   have h3 := Fr.len_size pf
   unfold sizeX at h1
   simp only at h1
   omega
  obtain ⟨hgl, A4, c4, hcl4, hr4⟩ := hnd.below hb4
  have s0 : w4.cell? ⟨g', o', none⟩ = _ := hcl4 0 _ rfl
  have s1 : w4.cell? ⟨g', o' + 1, none⟩ = _ := hcl4 1 _ rfl
  have s2 : w4.cell? ⟨g', o' + 2, none⟩ = _ := hcl4 2 _ rfl
  have s3 : w4.cell? ⟨g', o' + 3, none⟩ = _ := hcl4 3 _ rfl
  have s4 : w4.cell? ⟨g', o' + 4, none⟩ = _ := hcl4 4 _ rfl
  have s5 : w4.cell? ⟨g', o' + 5, none⟩ = _ := hcl4 5 _ rfl
  have HGP : Hid (getX (a, f) l.dropLast = some (pa, pf)) := hHd (by rw [HDL.out]; exact hy)
  have HGP2 : Hid (getX (a, f) (l.take n) = some (pa, pf)) := hHd hy
  have HB34 : Hid (Below (set6 w3 w.heap.size (.string (txt a.name)) (.string (txt a.key)) (.int .i64 a.kind) (.int .u64 (a.num : Int)) (.string (txt a.text)) (.slice A1 f.len c1)).heap.size (set6 w3 w.heap.size (.string (txt a.name)) (.string (txt a.key)) (.int .i64 a.kind) (.int .u64 (a.num : Int)) (.string (txt a.text)) (.slice A1 f.len c1)) w4) := hHd hb4
  have K1 := hHd k1
  have K2 := hHd k2
  have K3 := hHd (And.intro k3 k4)
  have K6 := hHd k6
  have HGN := hHd hgne
  have HGR := hHd hgfr
  have HPS := hHd hpsz
  clear hy hnd hpat hcl1 k1 k2 k3 k4 k5 k6 hgne hgfr hpsz hgl hcl4 hr4 hb4
  by_cases hkd : pa.kind = 0
  ·have HLF : Hid (∀ W, Calls Try.prog 47 #[.agg (cN pa (.slice A4 pf.len c4))] W (Ans9 (.bool false) W)) := hHd (fun W => by
    have h := leafis_any pa (.slice A4 pf.len c4) W
    rw [show decide (pa.kind ≠ 0) = false by simp [hkd]] at h
    exact h)
   have HKD := hHd hkd
   clear hkd
   go_wp2_with fail
   refine (HLF.out _).mono ?_
   rintro r w5 ⟨rfl, hb5⟩
   have HQ5 := hHd (HQ4.out.1.below hb5 HQ4.out.1.lt)
   have HB5 := hHd (HB4.out.trans (hb5.mono HB4.out.size))
   have HB35 := hHd (HB34.out.trans (hb5.mono HB34.out.size))
   obtain ⟨q0, q1, q2, q3, q4, q5⟩ := cl6 HQ5.out
   clear hb5 s0 s1 s2 s3 s4 s5
   go_wp2_with fail
   refine (HCY.out w5 HB5.out).mono ?_
   rintro r w6 ⟨vx, Fx, rfl, hUx, hndx, hb6⟩
   obtain ⟨Ax, cx, rfl⟩ := hUx.shape
   have HB36 : Hid (Below (set6 w3 w.heap.size (.string (txt a.name)) (.string (txt a.key)) (.int .i64 a.kind) (.int .u64 (a.num : Int)) (.string (txt a.text)) (.slice A1 f.len c1)).heap.size (set6 w3 w.heap.size (.string (txt a.name)) (.string (txt a.key)) (.int .i64 a.kind) (.int .u64 (a.num : Int)) (.string (txt a.text)) (.slice A1 f.len c1)) w6) := hHd (HB35.out.trans (hb6.mono HB35.out.size))
   have HFX : Hid (∀ h, h ∈ Fx → w5.heap.size ≤ h) := hHd (fun h hh => (hUx.fresh h hh).1)
   have HPUT : Hid (Calls Try.prog 48 #[.pointer (some ⟨g', o', none⟩), .agg (cN y (.slice Ax yf.len cx))] w6 (PutR w.heap.size g' o' (pa, putF pf (y, yf)) Fy Fx w6)) := hHd (by
    obtain ⟨v, hcl, hU⟩ := K1.out
    have hFy : ∀ h, h ∈ Fy → h < (set6 w3 w.heap.size (.string (txt a.name)) (.string (txt a.key)) (.int .i64 a.kind) (.int .u64 (a.num : Int)) (.string (txt a.text)) (.slice A1 f.len c1)).heap.size := fun h hh => (hU.fresh h hh).lt
    obtain ⟨zs, F0, rfl, hK, hT⟩ := hU
    have hsz : (set6 w3 w.heap.size (.string (txt a.name)) (.string (txt a.key)) (.int .i64 a.kind) (.int .u64 (a.num : Int)) (.string (txt a.text)) (.slice A1 f.len c1)).heap.size ≤ w5.heap.size := HB35.out.size
    refine put_any w.heap.size g' o' pa y pf yf F0 Fx zs v Ax cx w6 (fun j u hu => (HB36.out.cell (p := ⟨g', o' + j, none⟩) HGN.out.2.2.2).trans (hcl j u hu)) (hK.below HB36.out) (hT.below HB36.out) K3.out.1 K3.out.2 ?_
     (hUx.keep (fun _ _ => rfl) HB5.out.size) hndx (fun h hh => ⟨fun hm => by have := hFy h hm; have := HFX.out h hh; omega, fun e => by have := HFX.out h hh; have := HGN.out.2.2.2; omega⟩) HPS.out (Nat.le_trans HB5.out.size hb6.size)
    obtain ⟨h1, cs, t, h2⟩ := HGR.out
    exact ⟨h1, cs, t, (HB36.out.block g' HGN.out.2.2.2).trans h2⟩)
   have HB6 := hHd (HB5.out.trans (hb6.mono HB5.out.size))
   clear hUx hndx hb6 q0 q1 q2 q3 q4 q5
   go_wp2_with fail
   refine HPUT.out.mono ?_
   rintro r w7 ⟨rfl, Fy', m1, m2, m3, m4, m5, m6, m7⟩
   obtain ⟨F', n1, n2, n3, n4⟩ := K6.out w7 (pa, putF pf (y, yf)) Fy' m1 m2 m3 (fun h hh => by
     have h1 := HB35.out.size
     have h2 := HB36.out.size
     rcases m4 h hh with h3 | h3 | h3
     ·exact .inl h3
     ·have := HFX.out h h3; exact .inr (by omega)
     ·exact .inr (by omega))
    (by
     obtain ⟨cs, cs', t, e1, e2, e3, e4⟩ := m5
     exact ⟨cs, cs', t, (HB36.out.block g' HGN.out.2.2.2).symm.trans e1, e2, e3, e4⟩)
    (fun h hh h1 h2 => (m6 h (Nat.lt_of_lt_of_le hh HB36.out.size) h1 h2).trans (HB36.out.block h hh))
   have hX : replX (a, f) (l.take n) (pa, putF pf (y, yf)) = setX (a, f) l (y, yf) := by
    rw [repl_set (l.take n) (a, f) (pa, pf) (y, yf) sl HGP2.out HEQ.out.symm, ← HLL2.out]
   rw [hX] at n1
   obtain ⟨XF, hXF⟩ : ∃ XF, XF = (setX (a, f) l (y, yf)).2 := ⟨_, rfl⟩
   have hXX : setX (a, f) l (y, yf) = (a, XF) := by
    rw [hXF]
    exact Prod.ext set_fst rfl
   rw [hXX] at n1
   obtain ⟨v', ncl, nU⟩ := n1
   obtain ⟨A7, c7, rfl⟩ := nU.shape
   have HZ7 : Hid (Blk w7 (w.heap.size + 2) 27 #[.string ⟨#[]⟩, .string ⟨#[]⟩, .int .i64 0, .int .u64 0, .string ⟨#[]⟩, .slice none 0 0]) := hHd (by
    have h1 : w.heap.size + 2 < w6.heap.size := by have := HB36.out.size; have := HQ3.out.2.2.2; omega
    refine (m6 _ h1 (fun e => HGN.out.2.1 e.symm) (fun hm => by have := HF1.out _ (K2.out _ hm); omega)).trans ?_
    exact (HB36.out.block _ HQ3.out.2.2.1.lt).trans HQ3.out.2.2.1)
   have RZ : Hid (Blk (set6 w7 (w.heap.size + 2) (.string (txt a.name)) (.string (txt a.key)) (.int .i64 a.kind) (.int .u64 (a.num : Int)) (.string (txt a.text)) (.slice A7 XF.len c7)) (w.heap.size + 2) 27 (cN a (.slice A7 XF.len c7))) := hHd (HZ7.out.set6 _ _ _ _ _ _)
   have HQ : Hid (SetR a y f yf l w (.returned (.tuple #[.agg (cN a (.slice A7 XF.len c7)), .int .i64 0])) (set6 w7 (w.heap.size + 2) (.string (txt a.name)) (.string (txt a.key)) (.int .i64 a.kind) (.int .u64 (a.num : Int)) (.string (txt a.text)) (.slice A7 XF.len c7))) := hHd (by
    refine setR_ok HLAST.out HGP.out HKD.out ?_
    rw [hXX]
    have h0 := HQ3.out.2.2.2
    exact ⟨_, rfl, OwnU.new (a := a) (nU.keep (fun h hh => set6_other (by rcases n4 h hh with h1 | h1; have := HF1.out h h1; omega; omega)) (Nat.le_refl _)), (HB6.out.trans m7).trans (set6_below (by omega))⟩)
   have p0 : w7.cell? ⟨w.heap.size, 0, none⟩ = _ := ncl 0 _ rfl
   have p1 : w7.cell? ⟨w.heap.size, 1, none⟩ = _ := ncl 1 _ rfl
   have p2 : w7.cell? ⟨w.heap.size, 2, none⟩ = _ := ncl 2 _ rfl
   have p3 : w7.cell? ⟨w.heap.size, 3, none⟩ = _ := ncl 3 _ rfl
   have p4 : w7.cell? ⟨w.heap.size, 4, none⟩ = _ := ncl 4 _ rfl
   have p5 : w7.cell? ⟨w.heap.size, 5, none⟩ = _ := ncl 5 _ rfl
   have fz0 : (w7).frozen? ⟨w.heap.size + 2, 0, none⟩ = false := HZ7.out.frozen 0
   have fq0 := (HZ7.out.cell 0).trans rfl
   have fz1 : (w7).frozen? ⟨w.heap.size + 2, 1, none⟩ = false := HZ7.out.frozen 1
   have fq1 := (HZ7.out.cell 1).trans rfl
   have fz2 : (w7).frozen? ⟨w.heap.size + 2, 2, none⟩ = false := HZ7.out.frozen 2
   have fq2 := (HZ7.out.cell 2).trans rfl
   have fz3 : (w7).frozen? ⟨w.heap.size + 2, 3, none⟩ = false := HZ7.out.frozen 3
   have fq3 := (HZ7.out.cell 3).trans rfl
   have fz4 : (w7).frozen? ⟨w.heap.size + 2, 4, none⟩ = false := HZ7.out.frozen 4
   have fq4 := (HZ7.out.cell 4).trans rfl
   have fz5 : (w7).frozen? ⟨w.heap.size + 2, 5, none⟩ = false := HZ7.out.frozen 5
   have fq5 := (HZ7.out.cell 5).trans rfl
   clear m1 m2 m3 m4 m5 m6 m7 n2 n3 n4 hX hXF hXX ncl nU
   go_wp2
   refine bodyPost_ret (res_ct9 rfl _ _ (w.heap.size + 2) 27 _ (0, 0) _ rfl RZ.out Try.underlying27 rfl (by kernel_rfl)) rfl ?_
   exact HQ.out
  ·have HLF : Hid (∀ W, Calls Try.prog 47 #[.agg (cN pa (.slice A4 pf.len c4))] W (Ans9 (.bool true) W)) := hHd (fun W => by
    have h := leafis_any pa (.slice A4 pf.len c4) W
    rw [show decide (pa.kind ≠ 0) = true by simp [hkd]] at h
    exact h)
   have HKD := hHd hkd
   clear hkd
   go_wp2_with fail
   refine (HLF.out _).mono ?_
   rintro r w5 ⟨rfl, hb5⟩
   have HZ5 := hHd (HQ4.out.2.1.below hb5 HQ4.out.2.1.lt)
   have HB5 := hHd (HB4.out.trans (hb5.mono HB4.out.size))
   clear hb5 s0 s1 s2 s3 s4 s5
   have fz0 : (w5).frozen? ⟨w.heap.size + 2, 0, none⟩ = false := HZ5.out.frozen 0
   have fq0 := (HZ5.out.cell 0).trans rfl
   have fz1 : (w5).frozen? ⟨w.heap.size + 2, 1, none⟩ = false := HZ5.out.frozen 1
   have fq1 := (HZ5.out.cell 1).trans rfl
   have fz2 : (w5).frozen? ⟨w.heap.size + 2, 2, none⟩ = false := HZ5.out.frozen 2
   have fq2 := (HZ5.out.cell 2).trans rfl
   have fz3 : (w5).frozen? ⟨w.heap.size + 2, 3, none⟩ = false := HZ5.out.frozen 3
   have fq3 := (HZ5.out.cell 3).trans rfl
   have fz4 : (w5).frozen? ⟨w.heap.size + 2, 4, none⟩ = false := HZ5.out.frozen 4
   have fq4 := (HZ5.out.cell 4).trans rfl
   have fz5 : (w5).frozen? ⟨w.heap.size + 2, 5, none⟩ = false := HZ5.out.frozen 5
   have fq5 := (HZ5.out.cell 5).trans rfl
   have RZ : Hid (Blk (set6 w5 (w.heap.size + 2) (.string ⟨#[]⟩) (.string ⟨#[]⟩) (.int .i64 0) (.int .u64 0) (.string ⟨#[]⟩) (.slice none 0 0)) (w.heap.size + 2) 27 #[.string ⟨#[]⟩, .string ⟨#[]⟩, .int .i64 0, .int .u64 0, .string ⟨#[]⟩, .slice none 0 0]) := hHd (HZ5.out.set6 _ _ _ _ _ _)
   have HQ : Hid (SetR a y f yf l w (.returned (.tuple #[.agg #[.string ⟨#[]⟩, .string ⟨#[]⟩, .int .i64 0, .int .u64 0, .string ⟨#[]⟩, .slice none 0 0], .int .i64 30])) (set6 w5 (w.heap.size + 2) (.string ⟨#[]⟩) (.string ⟨#[]⟩) (.int .i64 0) (.int .u64 0) (.string ⟨#[]⟩) (.slice none 0 0))) := hHd (setR_no HLAST.out (.inr ⟨(pa, pf), HGP.out, HKD.out⟩) (zero_tree HB5.out (by omega)))
   go_wp2
   refine bodyPost_ret (res_ct9 rfl _ _ (w.heap.size + 2) 27 _ (0, 0) _ rfl RZ.out Try.underlying27 rfl (by kernel_rfl)) rfl ?_
   exact HQ.out
theorem setT (W0 : World) : SetTC W0 := by
 intro x y l cs ds v w hx hy hv hf hg _ hl _
 obtain ⟨A, c, rfl, hk⟩ := hx.shape
 obtain ⟨Ay, cy, rfl, hky⟩ := hy.shape
 obtain ⟨B, m, rfl⟩ := hv.shape
 obtain ⟨a, f⟩ := x
 obtain ⟨y, yf⟩ := y
 cases hn : l.length with
 | zero =>
  have e : l = [] := List.eq_nil_of_length_eq_zero hn
  subst e
  have h := dset_nil a y f yf A Ay B c cy m w
  have e2 : SetX (a, f) [] (y, yf) = (noN, 1) := by unfold SetX; simp
  rw [e2]
  exact h
 | succ n =>
  rw [hn] at hv
  obtain ⟨sl, hs⟩ : ∃ s, l[n]? = some s := ⟨_, List.getElem?_eq_getElem (by omega)⟩
  by_cases heq : stp y = sl
  ·exact dset_go a y f yf A Ay B c cy m n l sl w hk hky hf hg hv hs hl heq
  ·have h := dset_arg a y f yf A Ay B c cy m n l sl w hv hs hl heq
   have e2 : SetX (a, f) l (y, yf) = (noN, 1) := by
    unfold SetX
    rw [if_pos]
    rw [List.getLast?_eq_getElem?, hn, Nat.add_sub_cancel, hs]
    simp only [ne_eq, Option.some.injEq]
    exact fun e => heq e.symm
   rw [e2]
   exact h
end Go.Proofs.Ythmobcaidhgeaaa
