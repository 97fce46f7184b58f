/- VadKey VadKls -/
import Derived.Test.YtodlhgflfcadmaaGreatUM16
import Derived.Maps.OwnIn
set_option linter.unusedSimpArgs false
set_option linter.unusedVariables false
set_option maxRecDepth 100000
set_option maxHeartbeats 8000000
namespace Go.Proofs.YtodlhgflfcadmaaGreat
open Go.RowKit
section
attribute [local go_sem] Oper.semAt_some
def litsOf (l : List Nd) : List Lit := l.map fun y => Lit.string y.1.key
def keyX (l : List Nd) : DataW Unit := Maps.setOf (.agg []) (litsOf l)
theorem keyX_snoc (l : List Nd) (y : Nd) : keyX (l ++ [y]) = (keyX l).put (.string y.1.key) (.agg []) := by
 unfold keyX litsOf
 rw [List.map_append, List.map_cons, List.map_nil, Maps.setOf_snoc]
theorem keyX_has (l : List Nd) (t : List UInt8) : Maps.has (keyX l) (.string t) = l.any fun y => decide (y.1.key = t) := by
 unfold keyX
 rw [Maps.has_setOf _ _ _ (by intro x hx; unfold litsOf at hx; obtain ⟨y, _, rfl⟩ := List.mem_map.1 hx; trivial)]
 unfold litsOf
 rw [List.any_map]
 congr 1
 funext y
 show (y.1.key == t) = _
 by_cases h : y.1.key = t <;> simp [h]
theorem kidsOf_len (nm : List UInt8) : ∀ f : NdF, (kidsOf nm f).length ≤ f.len := by
 intro f
 induction f with
 | nil => exact Nat.le_refl _
 | cons a k r _ ih => unfold kidsOf; split <;> simp only [List.length_cons, Fr.len] <;> omega
def KeysP (l : List Nd) (w : World) (r : Ending) (w' : World) : Prop := ∃ m n, r = .returned (.map (some m)) ∧ w.heap.size ≤ m ∧ m < w'.heap.size ∧ w'.ownsMap Tryz.prog 9 (unitElem (H := Unit)) m n (keyX l) ∧ Below w.heap.size w w'
def KeyI (w : World) (pre : List Nd) (W : World) : Prop := Blk W (w.heap.size + 2) 132 #[.map (some (w.heap.size + 1))] ∧ W.ownsMap Tryz.prog 9 (unitElem (H := Unit)) (w.heap.size + 1) pre.length (keyX pre) ∧ Below w.heap.size w W ∧ w.heap.size + 5 ≤ W.heap.size
def KeyX (w : World) (c : Code) (pre : List Nd) (W : World) : Prop := False
def KeyA (f fs : Value) (w : World) (x : Nd) (a : Act) (W : World) : Prop := ∃ (Bx c : Nat) (A : Option Addr), w.heap.size + 5 ≤ Bx ∧ Blk W Bx 27 (ndC x.1 (.slice A x.2.len c)).toArray ∧
 a = { tmps := #[f, fs, .pointer (some ⟨w.heap.size, 0, none⟩), undef, .map none, .pointer (some ⟨w.heap.size + 2, 0, none⟩), .pointer (some ⟨Bx, 0, none⟩), .map (some (w.heap.size + 1)), f, fs, .func (.func 108) #[] #[.pointer (some ⟨w.heap.size + 3, 0, none⟩), .pointer (some ⟨w.heap.size + 4, 0, none⟩)], .agg (ndC x.1 (.slice A x.2.len c)).toArray, undef, undef, undef, undef, undef], defers := [] }
theorem ownsMap_at {w w' : World} {P : Program} {k : TypeId} {R : Value → Option (DataW Unit × List MemPlace)} {m n : Nat} {D : DataW Unit} (h : w.ownsMap P k R m n D) (e : w'.heap[m]? = w.heap[m]?) : w'.ownsMap P k R m n D := by
 obtain ⟨es, clock, h1, h2⟩ := h
 exact ⟨es, clock, e.trans h1, h2⟩
theorem keyI_st (w : World) (pre : List Nd) : StB (w.heap.size + 5) (KeyI w pre) := fun A A' ⟨h1, h2, h3, h4⟩ hb =>
 ⟨(hb.block _ (by omega)).trans h1, ownsMap_at h2 (hb.block _ (by omega)), h3.trans (hb.mono (by omega)), Nat.le_trans h4 hb.size⟩
theorem keyA_own (f fs : Value) (w : World) (x : Nd) (a : Act) : OwnFrom (w.heap.size + 5) (fun (_ : Unit) W => KeyA f fs w x a W) := by
 rintro s X Y row ⟨Bx, c, A, h1, h2, h3⟩ hg hr
 exact ⟨Bx, c, A, h1, h2.obj hg (fun r e => (hr r e).2), h3⟩
theorem keys_any (nm : List UInt8) (a : NdD) (f : NdF) (A : Option Addr) (c : Nat) (w : World) (hrow : RowT w.heap.size w (.slice A f.len c) f) (hlen : f.len ≤ 1000000) (hok : OkF f) :
  Calls Tryz.prog 88 #[.agg (cN a (.slice A f.len c)), .string (txt nm)] w (KeysP (kidsOf nm f) w) := by
 refine (callsIn_wide (n := 9)).1 ?_
 refine callsIn_of_wp_marks Tryz.func88 rfl trivial ?_ rfl
 simp only [Tryz.ntmps88, List.size_toArray, List.length_cons, List.length_nil, Nat.reduceAdd, Nat.reduceSub, Array.replicate_succ, Array.replicate_zero, List.push_toArray, List.append_toArray, List.nil_append, List.cons_append]
 have hmm := @run_makeMap Tryz.prog
 gi_wp2_with fail
 refine ⟨trivial, calls_wideR (ro := none) ((vnamed_any _ _ nm _).mono ?_)⟩
 rintro e w' ⟨rfl, rfl⟩
 gi_wp2_with fail
 obtain ⟨W5, hW5⟩ : ∃ W5, W5 = ((((w.alloc (.cells (cN a (.slice A f.len c)) 27)).alloc (.map #[] 0)).alloc (.cells #[.map (some (w.heap.size + 1))] 132)).alloc (.cells (cN a (.slice A f.len c)) 27)).alloc (.cells #[.string (txt nm)] 9) := ⟨_, rfl⟩
 have hs3 : (((w.alloc (.cells (cN a (.slice A f.len c)) 27)).alloc (.map #[] 0)).alloc (.cells #[.map (some (w.heap.size + 1))] 132)).heap.size = w.heap.size + 3 := by simp
 have hs5 : W5.heap.size = w.heap.size + 5 := by rw [hW5]; simp
 have hb3 : Below w.heap.size w (((w.alloc (.cells (cN a (.slice A f.len c)) 27)).alloc (.map #[] 0)).alloc (.cells #[.map (some (w.heap.size + 1))] 132)) := (bAl.alloc (by simp) _).alloc (by simp <;> omega) _
 have hb35 : Below (w.heap.size + 3) (((w.alloc (.cells (cN a (.slice A f.len c)) 27)).alloc (.map #[] 0)).alloc (.cells #[.map (some (w.heap.size + 1))] 132)) W5 := by rw [hW5]; exact ((Below.refl _ _).alloc (by simp) _).alloc (by simp <;> omega) _
 have hb5 : Below w.heap.size w W5 := hb3.trans (hb35.mono (by omega))
 have hi0 : KeyI w [] W5 := by
  refine ⟨(hb35.block _ (by omega)).trans ?_, ?_, hb5, by omega⟩
  ·exact Blk.newA (by simp) _ _
  ·refine ownsMap_at (w := (w.alloc (.cells (cN a (.slice A f.len c)) 27)).alloc (.map #[] 0)) ?_ ((hb35.block _ (by omega)).trans (Below.heap_alloc _ _ _ (by simp)))
   have h := World.ownsMap_made (w.alloc (.cells (cN a (.slice A f.len c)) 27)) Tryz.prog 9 (unitElem (H := Unit))
   rw [show keyX [] = .map [] from rfl]
   simpa using h
 have hg3 : Blk W5 (w.heap.size + 3) 27 (cN a (.slice A f.len c)) := by rw [hW5]; exact (Blk.newA hs3 _ _).alloc _
 have hg4 : Blk W5 (w.heap.size + 4) 9 #[.string (txt nm)] := by rw [hW5]; exact Blk.newA (by simp) _ _
 have hseq := named_seq nm a f A c w.heap.size (w.heap.size + 3) (w.heap.size + 4) (fun k => k < w.heap.size ∨ k = w.heap.size + 3 ∨ k = w.heap.size + 4) W5 (hrow.under hb5 (Nat.le_refl _) (Nat.le_refl _)) hg3 hg4 (fun k hk => .inl hk) (.inr (.inl rfl)) (.inr (.inr rfl)) hb5.size hlen
 simp only [hs3, show w.heap.size + 3 + 1 = w.heap.size + 4 by omega] at *
 have HS5 := hHd hs5
 rw [← hW5]
 refine wpIn_range_go (by decide) rfl (Go.Proofs.enters_of Tryz.func108 (by kernel_rfl) rfl) hseq (Below.refl _ _) (by intro k hk; omega) (fun B x args W h => by obtain ⟨cs, rfl, _⟩ := h; rfl) (fun B B' x args W _ h => h)
  (KeyI w) (KeyX w) (by rw [hs5]; exact keyI_st w) (fun c s X Y row h => h.elim) hi0 (KeyA (.agg (cN a (.slice A f.len c))) (.string (txt nm)) w) (by rw [hs5]; exact keyA_own _ _ w) ?assign ?body ?done ?stop
 all_goals clear hs3 hs5 hb3 hb35 hi0 hg3 hg4 hseq hmm
 case assign =>
  rintro l pre x args W K hI ⟨cs, rfl, hx⟩ hK
  obtain ⟨A', c', rfl, hr'⟩ := hx.shape
  obtain ⟨y, k⟩ := x
  gi_wp2
  have hal : Below W5.heap.size W (W.alloc (.cells (ndC y (.slice A' k.len c')).toArray 27)) := (Below.refl _ _).alloc (by rw [HS5.out]; exact hI.2.2.2) _
  refine hK _ _ ((KeepsOthers.alloc _ _).from _) (KeepN.below bAl) ?_ ⟨W.heap.size, c', A', hI.2.2.2, Blk.new _ _ _, rfl⟩
  exact keyI_st w pre _ _ hI (by rw [HS5.out] at hal; exact hal)
 case body =>
  rintro l pre x post a' W hl - hxs hI ⟨Bx, c', A', h1, h2, rfl⟩
  obtain ⟨y, k⟩ := x
  have hy : OkD y := by
   obtain ⟨i, hi, _⟩ := kidsOf_mem (nm := nm) (f := f) (y := (y, k)) (by rw [hxs]; simp)
   exact (hok.at hi).1
  have hlen2 : pre.length < maxLen := by
   have h1 : (kidsOf nm f).length ≤ f.len := kidsOf_len nm f
   rw [hxs] at h1
   simp only [List.length_append, List.length_cons] at h1
   unfold maxLen
   omega
  have hkey : keyOf Tryz.prog 9 (.string (txt y.key)) = some (.string y.key) := by
   have h := WideMaps.keyOf_string_mk (P := Tryz.prog) Tryz.underlying9 (s := txt y.key) (by have := hy.key; unfold maxLen; simp [txt, ByteArray.size]; omega)
   rw [h]
   rfl
  have hown := hI.2.1
  have q0 := (hI.1.cell 0).trans rfl
  have q1 := (h2.cell 1).trans rfl
  have HI := hHd hI
  have HSN := hHd (keyX_snoc pre (y, k))
  clear hI h2 hxs hy
  gi_wp2_with (gi_at_mapUpdate; refine wpListIn_mapUpdate_own _ rfl _ _ _ 132 rfl 9 137 (Maps.string_keyed Tryz.underlying9) Tryz.underlying132 (unitElem (H := Unit)) (w.heap.size + 1) pre.length _ rfl hown hlen2 _ _ _ rfl rfl hkey (.agg []) [] unitElem_mk ?_; intro w1 hown1 hgrow1)
  have hk0 : ∀ k, k ≠ w.heap.size + 1 → k < W.heap.size → w1.heap[k]? = W.heap[k]? := fun k hk hlt => hgrow1.block k hlt (fun e => hk (by injection e))
  refine ⟨⟨hgrow1.os, hgrow1.tape, hgrow1.output, hgrow1.size, fun k hk hn => hk0 k (by have := HS5.out; omega) hk⟩, (hk0 _ (by omega) HI.out.1.lt).trans HI.out.1, ?_, ?_, Nat.le_trans HI.out.2.2.2 hgrow1.size⟩
  ·rw [HSN.out]
   simpa using hown1
  ·exact HI.out.2.2.1.trans ⟨hgrow1.os, hgrow1.tape, hgrow1.output, hgrow1.size, fun k hk => hk0 k (by omega) (by have := HI.out.2.2.2; omega)⟩
 case done =>
  intro D W hD hI hK
  have q0 := (hI.1.cell 0).trans rfl
  have HI := hHd hI
  have hDn : w.heap.size + 5 ≤ D := by have := HS5.out; omega
  clear hI
  gi_wp2
  refine ⟨by simp, .inl ⟨_, _, rfl, run_takeDeferred hK, ?_⟩⟩
  refine ⟨_, by simp [results, Tryz.f88, go_sem], w.heap.size + 1, (kidsOf nm f).length, rfl, by omega, ?_, ?_, ?_⟩
  ·have := HI.out.2.2.2; simp; omega
  ·exact ownsMap_at HI.out.2.1 (World.putObj_heap_other (by omega))
  ·exact HI.out.2.2.1.trans (below_put _ _ _ (by omega))
 case stop => intro D c pre x post W _ _ h; exact h.elim
end
theorem RTreP.flat {a : NdD} {f : NdF} {u : Value} {w : World} {r : Ending} {w' : World} (h : RTreP (a, f) u w r w') : ∃ A c, r = .returned (.tuple #[.agg (cN a (.slice A f.len c)), u]) ∧ LieN w' (ndC a (.slice A f.len c)) (a, f) ∧ Below w.heap.size w w' := by
 obtain ⟨cs, rfl, h2, h3⟩ := h
 obtain ⟨A, c, rfl, _⟩ := h2.shape
 exact ⟨A, c, rfl, h2, h3⟩
theorem getX_one (x : Nd) (s : Stp) : GetX x [s] = match gtF s x.2 with | none => (noN, false) | some y => (y, true) := by
 unfold GetX
 simp only [getX]
 cases gtF s x.2 <;> rfl
theorem NewT.p {base : Nat} {w : World} {cs : List Value} {x : Nd} (h : NewT base w cs x) : LieP 0 base w cs x := by
 obtain ⟨S, h1, h2, h3, v, h4, h5⟩ := h
 exact FrN.mono stay_nd ⟨h2, h3.1, v, h4, h5.plain⟩ (fun g hg => .inr ⟨(h1 g hg).1, (h1 g hg).lt⟩) (fun _ h => h)
theorem TreP.p {x : Nd} {u : Value} {w : World} {r : Ending} {w' : World} (h : TreP x u w r w') : PTreP 0 x u w r w' := by
 obtain ⟨cs, h1, h2, h3⟩ := h; exact ⟨cs, h1, h2.p, h3⟩
def kidO (nm : List UInt8) (f : NdF) : Option Nd := gtF (nm, []) f
def kidN : Option Nd → Nd
 | none => noN
 | some y => y
theorem getX_kid (x : Nd) (nm : List UInt8) : GetX x [(nm, [])] = (kidN (kidO nm x.2), (kidO nm x.2).isSome) := by
 rw [getX_one]
 unfold kidO
 cases gtF (nm, []) x.2 <;> rfl
theorem kidO_mem {nm : List UInt8} {f : NdF} {y : Nd} (h : kidO nm f = some y) : (∃ i, f.get? i = some y) ∧ stp y.1 = (nm, []) := by
 unfold kidO at h
 induction f with
 | nil => cases h
 | cons a k r _ ih =>
  unfold gtF at h
  split at h
  ·rename_i hs; injection h with h; subst h; exact ⟨⟨0, rfl⟩, hs⟩
  ·obtain ⟨⟨i, h1⟩, h2⟩ := ih h; exact ⟨⟨i + 1, h1⟩, h2⟩
theorem keyless_any (nm : List UInt8) (a : NdD) (f : NdF) (A : Option Addr) (c : Nat) (w : World) (hrow : RowT w.heap.size w (.slice A f.len c) f) (hf : f.size ≤ 1000000) :
  Calls Tryz.prog 110 #[.agg (cN a (.slice A f.len c)), .string (txt nm)] w (RTreP (kidN (kidO nm f)) (.bool (kidO nm f).isSome) w) := by
 have hb3 : Below w.heap.size w (((w.alloc (.cells (cN a (.slice A f.len c)) 27)).alloc (.cells #[.string ⟨#[]⟩, .string ⟨#[]⟩, .int .i64 0, .int .u64 0, .string ⟨#[]⟩, .slice none 0 0] 27)).alloc (.cells #[.string (txt nm), .string ⟨#[]⟩] 125)) := (bAl.alloc (by simp) _).alloc (by simp <;> omega) _
 have h0 : Blk (((w.alloc (.cells (cN a (.slice A f.len c)) 27)).alloc (.cells #[.string ⟨#[]⟩, .string ⟨#[]⟩, .int .i64 0, .int .u64 0, .string ⟨#[]⟩, .slice none 0 0] 27)).alloc (.cells #[.string (txt nm), .string ⟨#[]⟩] 125)) w.heap.size 27 (cN a (.slice A f.len c)) := ((Blk.new w 27 (cN a (.slice A f.len c))).alloc _).alloc _
 have h1 : Blk (((w.alloc (.cells (cN a (.slice A f.len c)) 27)).alloc (.cells #[.string ⟨#[]⟩, .string ⟨#[]⟩, .int .i64 0, .int .u64 0, .string ⟨#[]⟩, .slice none 0 0] 27)).alloc (.cells #[.string (txt nm), .string ⟨#[]⟩] 125)) (w.heap.size + 1) 27 #[.string ⟨#[]⟩, .string ⟨#[]⟩, .int .i64 0, .int .u64 0, .string ⟨#[]⟩, .slice none 0 0] := (Blk.newA (w := w.alloc (.cells (cN a (.slice A f.len c)) 27)) (by simp) _ _).alloc _
 have hw3 : WayV (((w.alloc (.cells (cN a (.slice A f.len c)) 27)).alloc (.cells #[.string ⟨#[]⟩, .string ⟨#[]⟩, .int .i64 0, .int .u64 0, .string ⟨#[]⟩, .slice none 0 0] 27)).alloc (.cells #[.string (txt nm), .string ⟨#[]⟩] 125)).heap.size (((w.alloc (.cells (cN a (.slice A f.len c)) 27)).alloc (.cells #[.string ⟨#[]⟩, .string ⟨#[]⟩, .int .i64 0, .int .u64 0, .string ⟨#[]⟩, .slice none 0 0] 27)).alloc (.cells #[.string (txt nm), .string ⟨#[]⟩] 125)) (.slice (some ⟨w.heap.size + 2, 0, none⟩) 1 1) [(nm, [])] := by
  have h := (OwnS.one (w := ((w.alloc (.cells (cN a (.slice A f.len c)) 27)).alloc (.cells #[.string ⟨#[]⟩, .string ⟨#[]⟩, .int .i64 0, .int .u64 0, .string ⟨#[]⟩, .slice none 0 0] 27))) (nm, []) (base := 0) (Nat.zero_le _)).way
  simpa [txt] using h
 have hg := get_any a f A c [(nm, [])] (.slice (some ⟨w.heap.size + 2, 0, none⟩) 1 1) (((w.alloc (.cells (cN a (.slice A f.len c)) 27)).alloc (.cells #[.string ⟨#[]⟩, .string ⟨#[]⟩, .int .i64 0, .int .u64 0, .string ⟨#[]⟩, .slice none 0 0] 27)).alloc (.cells #[.string (txt nm), .string ⟨#[]⟩] 125)) (hrow.under hb3 (Nat.le_refl _) hb3.size) hw3 hf (by simp)
 rw [getX_kid (a, f) nm] at hg
 obtain ⟨ok, hok⟩ : ∃ z, z = (kidO nm f).isSome := ⟨_, rfl⟩
 obtain ⟨⟨ga, gf⟩, hgx⟩ : ∃ z : Nd, z = kidN (kidO nm f) := ⟨_, rfl⟩
 simp only at hg
 rw [← hok, ← hgx] at hg ⊢
 have HG := hHd hg
 have HB3 := hHd hb3
 have H1 := hHd h1
 clear hg hb3 h0 h1 hw3 hok hgx hrow hf
 go_enter Tryz.func110, Tryz.ntmps110
 go_wp2_with fail
 refine HG.out.mono ?_
 intro r w4 hr
 obtain ⟨A4, c4, rfl, hl4, hb4⟩ := (TreP.p hr).flat
 have HL4 := hHd hl4
 have HB4 := hHd (HB3.out.trans (hb4.mono HB3.out.size))
 have HZ4 := hHd (H1.out.below hb4 H1.out.lt)
 clear hr hl4 hb4
 have fz0 : (w4).frozen? ⟨w.heap.size + 1, 0, none⟩ = false := HZ4.out.frozen 0
 have fq0 := (HZ4.out.cell 0).trans rfl
 have fz1 : (w4).frozen? ⟨w.heap.size + 1, 1, none⟩ = false := HZ4.out.frozen 1
 have fq1 := (HZ4.out.cell 1).trans rfl
 have fz2 : (w4).frozen? ⟨w.heap.size + 1, 2, none⟩ = false := HZ4.out.frozen 2
 have fq2 := (HZ4.out.cell 2).trans rfl
 have fz3 : (w4).frozen? ⟨w.heap.size + 1, 3, none⟩ = false := HZ4.out.frozen 3
 have fq3 := (HZ4.out.cell 3).trans rfl
 have fz4 : (w4).frozen? ⟨w.heap.size + 1, 4, none⟩ = false := HZ4.out.frozen 4
 have fq4 := (HZ4.out.cell 4).trans rfl
 have fz5 : (w4).frozen? ⟨w.heap.size + 1, 5, none⟩ = false := HZ4.out.frozen 5
 have fq5 := (HZ4.out.cell 5).trans rfl
 go_wp2
 have HBZ : Hid (Below w.heap.size w (set6 w4 (w.heap.size + 1) (.string (txt ga.name)) (.string (txt ga.key)) (.int .i64 ga.kind) (.int .u64 (ga.num : Int)) (.string (txt ga.text)) (.slice A4 gf.len c4))) := hHd (HB4.out.trans (set6_below (by omega)))
 refine bodyPost_ret (res_ct9 rfl _ _ (w.heap.size + 1) 27 _ (0, 0) _ rfl (HZ4.out.set6 _ _ _ _ _ _) Tryz.underlying27 rfl (by kernel_rfl)) rfl ?_
 exact ⟨_, rfl, (HL4.out.set6 (Nat.zero_le _) (by simp <;> omega) _ _ _ _ _ _).lies (Nat.zero_le _), HBZ.out⟩
end Go.Proofs.YtodlhgflfcadmaaGreat
