/- What the laws of package tree want of TreGetR. -/
import Derived.Test.YtgipnemcmiohlaaZ9TreBox
namespace Go.Proofs.Ytgipnemcmiohlaa
open Go.RowKit
set_option linter.unusedSimpArgs false
set_option linter.unusedVariables false
set_option maxRecDepth 100000 in
set_option maxHeartbeats 2000000 in
theorem rget_nil (x : Nd) (cs : List Value) (B : Option Addr) (m b : Nat) (w : World) (hb : b ≤ w.heap.size) (hx : LieB b w cs x) :
    Calls Try.prog 21 #[.agg cs.toArray, .slice B 0 m] w (PTreP b x (.bool true) w) := by
  obtain ⟨A, c, rfl, hk⟩ := hx.shape
  obtain ⟨a, f⟩ := x
  have hb2 : Blk ((w.alloc (.cells #[.string (txt a.name), .string (txt a.key), .int .i64 a.kind, .int .u64 (a.num : Int), .string (txt a.text), .slice A f.len c] 27)).alloc (.cells #[.string (txt a.name), .string (txt a.key), .int .i64 a.kind, .int .u64 (a.num : Int), .string (txt a.text), .slice A f.len c] 27)) (w.heap.size + 1) 27 #[.string (txt a.name), .string (txt a.key), .int .i64 a.kind, .int .u64 (a.num : Int), .string (txt a.text), .slice A f.len c] := by
    have h := Blk.new (w.alloc (.cells #[.string (txt a.name), .string (txt a.key), .int .i64 a.kind, .int .u64 (a.num : Int), .string (txt a.text), .slice A f.len c] 27)) 27 #[.string (txt a.name), .string (txt a.key), .int .i64 a.kind, .int .u64 (a.num : Int), .string (txt a.text), .slice A f.len c]
    rw [show (w.alloc (.cells #[.string (txt a.name), .string (txt a.key), .int .i64 a.kind, .int .u64 (a.num : Int), .string (txt a.text), .slice A f.len c] 27)).heap.size = w.heap.size + 1 by simp] at h
    exact h
  have hB : Below w.heap.size w ((w.alloc (.cells #[.string (txt a.name), .string (txt a.key), .int .i64 a.kind, .int .u64 (a.num : Int), .string (txt a.text), .slice A f.len c] 27)).alloc (.cells #[.string (txt a.name), .string (txt a.key), .int .i64 a.kind, .int .u64 (a.num : Int), .string (txt a.text), .slice A f.len c] 27)) := ((Below.refl _ _).alloc (Nat.le_refl _) _).alloc (by simp) _
  have HX := Lib.hid ((hx.under hB hb (Nat.le_refl _)).p w.heap.size)
  have HB := Lib.hid hB
  have RE := Lib.hid hb2
  clear hx hk hb2 hB hb
  go_enter Try.func21, Try.ntmps21
  go_wp2
  refine bodyPost_ret (res_ct9 rfl _ _ (w.heap.size + 1) 27 _ (0, 0) _ rfl RE.out Try.underlying27 rfl (by kernel_rfl)) rfl ?_
  exact ⟨_, rfl, HX.out, HB.out⟩
set_option maxRecDepth 100000 in
set_option maxHeartbeats 4000000 in
theorem rget_none (b : Nat) (a : NdD) (f : NdF) (A : Option Addr) (c : Nat) (s : Stp) (g o N m : Nat) (w : World) (hx : LieN w (ndC a (.slice A f.len c)) (a, f)) (hl : f.len ≤ 1000000) (hs : Stp0 w g o s) (hg : g < w.heap.size) (hN : 0 < N) (hf : findN s f = none) :
    Calls Try.prog 21 #[.agg #[.string (txt a.name), .string (txt a.key), .int .i64 a.kind, .int .u64 (a.num : Int), .string (txt a.text), .slice A f.len c], .slice (some ⟨g, o, none⟩) N m] w (PTreP b noN (.bool false) w) := by
  obtain ⟨h1, h2, h3, h4⟩ := get_boxes a f A c w hx
  have e1 : ((N : Int) == 0) = false := by rw [beq_eq_false_iff_ne]; omega
  have e2 : (N == 0) = false := by rw [beq_eq_false_iff_ne]; omega
  have i1 : (0 : Int) < (N : Int) := by omega
  have HF : Hid (Calls Try.prog 35 #[.agg #[.string (txt a.name), .string (txt a.key), .int .i64 a.kind, .int .u64 (a.num : Int), .string (txt a.text), .slice A f.len c], .agg #[.string (txt s.1), .string (txt s.2)]] ((w.alloc (.cells #[.string (txt a.name), .string (txt a.key), .int .i64 a.kind, .int .u64 (a.num : Int), .string (txt a.text), .slice A f.len c] 27)).alloc (.cells #[.string ⟨#[]⟩, .string ⟨#[]⟩, .int .i64 0, .int .u64 0, .string ⟨#[]⟩, .slice none 0 0] 27)).drew (Ans9 (.int .i64 (-1)) ((w.alloc (.cells #[.string (txt a.name), .string (txt a.key), .int .i64 a.kind, .int .u64 (a.num : Int), .string (txt a.text), .slice A f.len c] 27)).alloc (.cells #[.string ⟨#[]⟩, .string ⟨#[]⟩, .int .i64 0, .int .u64 0, .string ⟨#[]⟩, .slice none 0 0] 27)).drew)) := Lib.hid (by
    have h := rfindn_any s (a, f) _ ((w.alloc (.cells #[.string (txt a.name), .string (txt a.key), .int .i64 a.kind, .int .u64 (a.num : Int), .string (txt a.text), .slice A f.len c] 27)).alloc (.cells #[.string ⟨#[]⟩, .string ⟨#[]⟩, .int .i64 0, .int .u64 0, .string ⟨#[]⟩, .slice none 0 0] 27)).drew h4 hl
    rw [show findIx s f = -1 by unfold findIx; rw [hf]] at h
    exact h)
  have HX := Lib.hid h1
  have RE := Lib.hid h2
  have HB := Lib.hid h3
  have HSt := Lib.hid (hs.below hg h3.drew)
  have HGL := Lib.hid hg
  clear h1 h2 h3 h4 hx hl hs hf hg
  go_enter Try.func21, Try.ntmps21
  go_wp2_with fail
  refine wp_region_noPanic ?_
  refine wp_region_held_drew (S := fun _ => True) (by kernel_rfl) trivial (fun hS => ?_)
  refine held_more (S' := fun w' => Blk w' w.heap.size 27 #[.string (txt a.name), .string (txt a.key), .int .i64 a.kind, .int .u64 (a.num : Int), .string (txt a.text), .slice A f.len c] ∧ Stp0 w' g o s) (fun _ _ => trivial) _ _ _ _ ?_
  replace hS := And.intro (HX.out.below (Below.refl _ _).drew HX.out.lt) HSt.out
  refine wpAnyH_take (i := 0) (oi := ?o1_0_1) (v := ?v1_0_1) ?i1_0_1 (by kernel_rfl) (by kernel_rfl) (by kernel_rfl) (fun _ _ _ h => h) (Or.inl ⟨?g1_0_1, ?y1_0_1⟩) hS ?_
  case i1_0_1 => simp only [List.getElem?_toArray, List.getElem?_cons_succ, List.getElem?_cons_zero]; rfl
  case g1_0_1 => rfl
  case y1_0_1 => (intro w hSw; have q0 := (hSw.1.cell 0).trans rfl; have q1 := (hSw.1.cell 1).trans rfl; have q2 := (hSw.1.cell 2).trans rfl; have q3 := (hSw.1.cell 3).trans rfl; have q4 := (hSw.1.cell 4).trans rfl; have q5 := (hSw.1.cell 5).trans rfl; (go_simp <;> with_reducible rfl))
  (try simp only [Act.put, List.setIfInBounds_toArray, List.set_cons_zero, List.set_cons_succ])
  refine wpAnyH_take (i := 1) (oi := ?o1_1_2) (v := ?v1_1_2) ?i1_1_2 (by kernel_rfl) (by kernel_rfl) (by kernel_rfl) (fun _ _ _ h => h) (Or.inl ⟨?g1_1_2, ?y1_1_2⟩) hS ?_
  case i1_1_2 => simp only [List.getElem?_toArray, List.getElem?_cons_succ, List.getElem?_cons_zero]; rfl
  case g1_1_2 => rfl
  case y1_1_2 => (intro w hSw; (go_simp <;> with_reducible rfl))
  (try simp only [Act.put, List.setIfInBounds_toArray, List.set_cons_zero, List.set_cons_succ])
  refine wpAnyH_take (i := 2) (oi := ?o1_2_3) (v := ?v1_2_3) ?i1_2_3 (by kernel_rfl) (by kernel_rfl) (by kernel_rfl) (fun _ _ _ h => h) (Or.inl ⟨?g1_2_3, ?y1_2_3⟩) hS ?_
  case i1_2_3 => simp only [List.getElem?_toArray, List.getElem?_cons_succ, List.getElem?_cons_zero]; rfl
  case g1_2_3 => rfl
  case y1_2_3 => (intro w hSw; (go_simp <;> with_reducible rfl))
  (try simp only [Act.put, List.setIfInBounds_toArray, List.set_cons_zero, List.set_cons_succ])
  refine wpAnyH_take (i := 3) (oi := ?o1_3_4) (v := ?v1_3_4) ?i1_3_4 (by kernel_rfl) (by kernel_rfl) (by kernel_rfl) (fun _ _ _ h => h) (Or.inl ⟨?g1_3_4, ?y1_3_4⟩) hS ?_
  case i1_3_4 => simp only [List.getElem?_toArray, List.getElem?_cons_succ, List.getElem?_cons_zero]; rfl
  case g1_3_4 => rfl
  case y1_3_4 => (intro w hSw; have q0 := hSw.2.1; have q1 := hSw.2.2; (go_simp <;> with_reducible rfl))
  (try simp only [Act.put, List.setIfInBounds_toArray, List.set_cons_zero, List.set_cons_succ])
  refine wpAnyH_ready (rs := [4]) (by kernel_rfl) (by simp) ?_
  refine (AllReadyH.cons (o := ?or1_5_4) ?ir1_5_4 (fun K hK => ?str1_5_4) AllReadyH.nil)
  case ir1_5_4 => simp only [List.getElem?_toArray, List.getElem?_cons_succ, List.getElem?_cons_zero]; rfl
  rw [if_pos (by rfl)]
  go_simp
  refine HF.out.mono ?_
  rintro r w3 ⟨rfl, hb3⟩
  have HB3 := Lib.hid (HB.out.drew.trans (hb3.mono HB.out.drew.size))
  have RE3 := Lib.hid ((RE.out.below (Below.refl _ _).drew RE.out.lt).below hb3 RE.out.lt)
  have HS3 := Lib.hid (And.intro ((HX.out.below (Below.refl _ _).drew HX.out.lt).below hb3 HX.out.lt) trivial)
  have HW3 := Lib.hid hb3
  clear hb3
  go_wp2_with fail
  refine hK.out _ _ ?sr1_5_4 (fun hS => ?_)
  case sr1_5_4 => (exact ⟨HS3.out.1, HSt.out.below (Nat.lt_of_lt_of_le HGL.out HB.out.drew.size) HW3.out⟩)
  clear hK K
  (try simp only [Act.put, List.setIfInBounds_toArray, List.set_cons_zero, List.set_cons_succ])
  refine wpAnyH_take (i := 5) (oi := ?o1_5_6) (v := ?v1_5_6) ?i1_5_6 (by kernel_rfl) (by kernel_rfl) (by kernel_rfl) (fun _ _ _ h => h) (Or.inl ⟨?g1_5_6, ?y1_5_6⟩) hS ?_
  case i1_5_6 => simp only [List.getElem?_toArray, List.getElem?_cons_succ, List.getElem?_cons_zero]; rfl
  case g1_5_6 => rfl
  case y1_5_6 => (intro w hSw; (go_simp <;> with_reducible rfl))
  (try simp only [Act.put, List.setIfInBounds_toArray, List.set_cons_zero, List.set_cons_succ])
  refine wpAnyH_done (by kernel_rfl) ?_ _
  refine NoPanic.normal ?_
  clear hS
  have fz0 : (w3).frozen? ⟨w.heap.size + 1, 0, none⟩ = false := RE3.out.frozen 0
  have fq0 := (RE3.out.cell 0).trans rfl
  have fz1 : (w3).frozen? ⟨w.heap.size + 1, 1, none⟩ = false := RE3.out.frozen 1
  have fq1 := (RE3.out.cell 1).trans rfl
  have fz2 : (w3).frozen? ⟨w.heap.size + 1, 2, none⟩ = false := RE3.out.frozen 2
  have fq2 := (RE3.out.cell 2).trans rfl
  have fz3 : (w3).frozen? ⟨w.heap.size + 1, 3, none⟩ = false := RE3.out.frozen 3
  have fq3 := (RE3.out.cell 3).trans rfl
  have fz4 : (w3).frozen? ⟨w.heap.size + 1, 4, none⟩ = false := RE3.out.frozen 4
  have fq4 := (RE3.out.cell 4).trans rfl
  have fz5 : (w3).frozen? ⟨w.heap.size + 1, 5, none⟩ = false := RE3.out.frozen 5
  have fq5 := (RE3.out.cell 5).trans rfl
  have RZ : Hid (Blk (set6 w3 (w.heap.size + 1) (.string ⟨#[]⟩) (.string ⟨#[]⟩) (.int .i64 0) (.int .u64 0) (.string ⟨#[]⟩) (.slice none 0 0)) (w.heap.size + 1) 27 #[.string ⟨#[]⟩, .string ⟨#[]⟩, .int .i64 0, .int .u64 0, .string ⟨#[]⟩, .slice none 0 0]) := Lib.hid (RE3.out.set6 _ _ _ _ _ _)
  have HZ : Hid (Below w.heap.size w (set6 w3 (w.heap.size + 1) (.string ⟨#[]⟩) (.string ⟨#[]⟩) (.int .i64 0) (.int .u64 0) (.string ⟨#[]⟩) (.slice none 0 0))) := Lib.hid (HB3.out.trans (set6_below (by omega)))
  go_wp2
  refine bodyPost_ret (res_ct9 rfl _ _ (w.heap.size + 1) 27 _ (0, 0) _ rfl RZ.out Try.underlying27 rfl (by kernel_rfl)) rfl ?_
  exact ⟨_, rfl, (LieB.zero _ _).p _, HZ.out⟩
theorem way_tail1 {b : Nat} {w : World} {g o N m : Nat} {s : Stp} {l : List Stp} (h : WayV b w (.slice (some ⟨g, o, none⟩) N m) (s :: l)) : WayV b w (.slice (some ⟨g, o + 2, none⟩) (N - 1) (m - 1)) l := by
  have h2 := h.tail
  obtain ⟨_, _, _, e, _⟩ := h.at (j := 0) (s := s) rfl
  rw [show N - 1 = l.length by rw [e]; simp]
  exact h2
set_option maxRecDepth 100000 in
set_option maxHeartbeats 4000000 in
theorem rget_some_all (d : Nat) (a : NdD) (f : NdF) (A : Option Addr) (c : Nat) (s : Stp) (l : List Stp) (g o N m i : Nat) (a1 : NdD) (q : NdF) (ya : NdD) (yf : NdF) (bb : Bool) (w : World) (hd : d ≤ w.heap.size) (hx : LieB d w (ndC a (.slice A f.len c)) (a, f)) (hl : f.len ≤ 1000000) (hv : WayV w.heap.size w (.slice (some ⟨g, o, none⟩) N m) (s :: l)) (hf : findN s f = some i) (hy : f.get? i = some (a1, q)) (hm : m = 1)
    (hI : ∀ (cs : List Value) (v : Value) (W : World), d ≤ W.heap.size → LieB d W cs (a1, q) → WayV W.heap.size W v l → Calls Try.prog 21 #[.agg cs.toArray, v] W (PTreP d (ya, yf) (.bool bb) W)) :
    Calls Try.prog 21 #[.agg #[.string (txt a.name), .string (txt a.key), .int .i64 a.kind, .int .u64 (a.num : Int), .string (txt a.text), .slice A f.len c], .slice (some ⟨g, o, none⟩) N m] w (PTreP d (ya, yf) (.bool bb) w) := by
  obtain ⟨h1, h2, h3, h4⟩ := get_boxes a f A c w (hx.keep (fun _ _ => rfl) hd)
  obtain ⟨g', o', eg, hNl, hNm, hg, hs1, hs2⟩ := hv.at (j := 0) (s := s) rfl
  injection eg with eg
  injection eg with eg1 eg2 eg3
  subst eg1 eg2
  have hs : Stp0 w g o s := ⟨by simpa using hs1, by simpa using hs2⟩
  have hN : 0 < N := by rw [hNl]; simp
  have e1 : ((N : Int) == 0) = false := by rw [beq_eq_false_iff_ne]; omega
  have e2 : (N == 0) = false := by rw [beq_eq_false_iff_ne]; omega
  have i1 : (0 : Int) < (N : Int) := by omega
  have i2 : (1 : Int) ≤ (N : Int) := by omega
  have i3 : (N : Int) ≤ (m : Int) := by omega
  have HF : Hid (Calls Try.prog 35 #[.agg #[.string (txt a.name), .string (txt a.key), .int .i64 a.kind, .int .u64 (a.num : Int), .string (txt a.text), .slice A f.len c], .agg #[.string (txt s.1), .string (txt s.2)]] ((w.alloc (.cells #[.string (txt a.name), .string (txt a.key), .int .i64 a.kind, .int .u64 (a.num : Int), .string (txt a.text), .slice A f.len c] 27)).alloc (.cells #[.string ⟨#[]⟩, .string ⟨#[]⟩, .int .i64 0, .int .u64 0, .string ⟨#[]⟩, .slice none 0 0] 27)).drew (Ans9 (.int .i64 (i : Int)) ((w.alloc (.cells #[.string (txt a.name), .string (txt a.key), .int .i64 a.kind, .int .u64 (a.num : Int), .string (txt a.text), .slice A f.len c] 27)).alloc (.cells #[.string ⟨#[]⟩, .string ⟨#[]⟩, .int .i64 0, .int .u64 0, .string ⟨#[]⟩, .slice none 0 0] 27)).drew)) := Lib.hid (by
    have h := rfindn_any s (a, f) _ ((w.alloc (.cells #[.string (txt a.name), .string (txt a.key), .int .i64 a.kind, .int .u64 (a.num : Int), .string (txt a.text), .slice A f.len c] 27)).alloc (.cells #[.string ⟨#[]⟩, .string ⟨#[]⟩, .int .i64 0, .int .u64 0, .string ⟨#[]⟩, .slice none 0 0] 27)).drew h4 hl
    rw [show findIx s f = (i : Int) by unfold findIx; rw [hf]] at h
    exact h)
  have hk := LieB.row hx
  have hi := Fr.get_lt hy
  obtain ⟨b, p, A1, c1, rfl, -, -, hbl, hrow, hcl⟩ := hk.at hy
  have j1 : (0 : Int) ≤ (i : Int) := by omega
  have j2 : (i : Int) < (f.len : Int) := by omega
  have HX := Lib.hid h1
  have RE := Lib.hid h2
  have HB := Lib.hid h3
  have HSt := Lib.hid (hs.below hg h3.drew)
  have HGL := Lib.hid (And.intro hg (Nat.lt_of_lt_of_le hbl hd))
  have HD := Lib.hid hd
  have HI := Lib.hid hI
  have HV := Lib.hid hv
  have HC := Lib.hid hcl
  have HR := Lib.hid hrow
  obtain rfl : N = 1 := by omega
  have HL1 : Hid (l = []) := Lib.hid (by have : l.length = 0 := by simpa using hNl.symm
                                         exact List.eq_nil_of_length_eq_zero this)
  subst hm
  clear h1 h2 h3 h4 hx hl hs hf hg hk hbl hrow hcl hI hv hs1 hs2 hNl hNm hy hi hd
  go_enter Try.func21, Try.ntmps21
  go_wp2_with fail
  refine wp_region_noPanic ?_
  refine wp_region_held_drew (S := fun _ => True) (by kernel_rfl) trivial (fun hS => ?_)
  refine held_more (S' := fun w' => Blk w' w.heap.size 27 #[.string (txt a.name), .string (txt a.key), .int .i64 a.kind, .int .u64 (a.num : Int), .string (txt a.text), .slice (some ⟨b, p, none⟩) f.len c] ∧ Stp0 w' g o s) (fun _ _ => trivial) _ _ _ _ ?_
  replace hS := And.intro (HX.out.below (Below.refl _ _).drew HX.out.lt) HSt.out
  refine wpAnyH_take (i := 0) (oi := ?o2_0_1) (v := ?v2_0_1) ?i2_0_1 (by kernel_rfl) (by kernel_rfl) (by kernel_rfl) (fun _ _ _ h => h) (Or.inl ⟨?g2_0_1, ?y2_0_1⟩) hS ?_
  case i2_0_1 => simp only [List.getElem?_toArray, List.getElem?_cons_succ, List.getElem?_cons_zero]; rfl
  case g2_0_1 => rfl
  case y2_0_1 => (intro w hSw; have q0 := (hSw.1.cell 0).trans rfl; have q1 := (hSw.1.cell 1).trans rfl; have q2 := (hSw.1.cell 2).trans rfl; have q3 := (hSw.1.cell 3).trans rfl; have q4 := (hSw.1.cell 4).trans rfl; have q5 := (hSw.1.cell 5).trans rfl; (go_simp <;> with_reducible rfl))
  (try simp only [Act.put, List.setIfInBounds_toArray, List.set_cons_zero, List.set_cons_succ])
  refine wpAnyH_take (i := 1) (oi := ?o2_1_2) (v := ?v2_1_2) ?i2_1_2 (by kernel_rfl) (by kernel_rfl) (by kernel_rfl) (fun _ _ _ h => h) (Or.inl ⟨?g2_1_2, ?y2_1_2⟩) hS ?_
  case i2_1_2 => simp only [List.getElem?_toArray, List.getElem?_cons_succ, List.getElem?_cons_zero]; rfl
  case g2_1_2 => rfl
  case y2_1_2 => (intro w hSw; (go_simp <;> with_reducible rfl))
  (try simp only [Act.put, List.setIfInBounds_toArray, List.set_cons_zero, List.set_cons_succ])
  refine wpAnyH_take (i := 2) (oi := ?o2_2_3) (v := ?v2_2_3) ?i2_2_3 (by kernel_rfl) (by kernel_rfl) (by kernel_rfl) (fun _ _ _ h => h) (Or.inl ⟨?g2_2_3, ?y2_2_3⟩) hS ?_
  case i2_2_3 => simp only [List.getElem?_toArray, List.getElem?_cons_succ, List.getElem?_cons_zero]; rfl
  case g2_2_3 => rfl
  case y2_2_3 => (intro w hSw; (go_simp <;> with_reducible rfl))
  (try simp only [Act.put, List.setIfInBounds_toArray, List.set_cons_zero, List.set_cons_succ])
  refine wpAnyH_take (i := 3) (oi := ?o2_3_4) (v := ?v2_3_4) ?i2_3_4 (by kernel_rfl) (by kernel_rfl) (by kernel_rfl) (fun _ _ _ h => h) (Or.inl ⟨?g2_3_4, ?y2_3_4⟩) hS ?_
  case i2_3_4 => simp only [List.getElem?_toArray, List.getElem?_cons_succ, List.getElem?_cons_zero]; rfl
  case g2_3_4 => rfl
  case y2_3_4 => (intro w hSw; have q0 := hSw.2.1; have q1 := hSw.2.2; (go_simp <;> with_reducible rfl))
  (try simp only [Act.put, List.setIfInBounds_toArray, List.set_cons_zero, List.set_cons_succ])
  refine wpAnyH_ready (rs := [4]) (by kernel_rfl) (by simp) ?_
  refine (AllReadyH.cons (o := ?or2_5_4) ?ir2_5_4 (fun K hK => ?str2_5_4) AllReadyH.nil)
  case ir2_5_4 => simp only [List.getElem?_toArray, List.getElem?_cons_succ, List.getElem?_cons_zero]; rfl
  rw [if_pos (by rfl)]
  go_simp
  refine HF.out.mono ?_
  rintro r w3 ⟨rfl, hb3⟩
  have HB3 := Lib.hid (HB.out.drew.trans (hb3.mono HB.out.drew.size))
  have RE3 := Lib.hid ((RE.out.below (Below.refl _ _).drew RE.out.lt).below hb3 RE.out.lt)
  have HX3 := Lib.hid ((HX.out.below (Below.refl _ _).drew HX.out.lt).below hb3 HX.out.lt)
  have HW3 := Lib.hid hb3
  clear hb3
  go_wp2_with fail
  refine hK.out _ _ ?sr2_5_4 (fun hS => ?_)
  case sr2_5_4 => (exact ⟨HX3.out, HSt.out.below (Nat.lt_of_lt_of_le HGL.out.1 HB.out.drew.size) HW3.out⟩)
  clear hK K
  (try simp only [Act.put, List.setIfInBounds_toArray, List.set_cons_zero, List.set_cons_succ])
  refine wpAnyH_take (i := 5) (oi := ?o2_5_6) (v := ?v2_5_6) ?i2_5_6 (by kernel_rfl) (by kernel_rfl) (by kernel_rfl) (fun _ _ _ h => h) (Or.inl ⟨?g2_5_6, ?y2_5_6⟩) hS ?_
  case i2_5_6 => simp only [List.getElem?_toArray, List.getElem?_cons_succ, List.getElem?_cons_zero]; rfl
  case g2_5_6 => rfl
  case y2_5_6 => (intro w hSw; (go_simp <;> with_reducible rfl))
  (try simp only [Act.put, List.setIfInBounds_toArray, List.set_cons_zero, List.set_cons_succ])
  refine wpAnyH_done (by kernel_rfl) ?_ _
  refine NoPanic.normal ?_
  clear hS
  go_wp2_with fail
  have HX4 := Lib.hid (HX3.out.below (Below.refl _ _).drew HX3.out.lt)
  have RE4 := Lib.hid (RE3.out.below (Below.refl _ _).drew RE3.out.lt)
  have HC4 : Hid (∀ j u, (ndC a1 (.slice A1 q.len c1))[j]? = some u → w3.drew.cell? ⟨b, p + i * 6 + j, none⟩ = some u) := Lib.hid (fun j u hu => (HB3.out.drew.cell (p := ⟨b, p + i * 6 + j, none⟩) HGL.out.2).trans (HC.out j u hu))
  have HI1 : Hid (Calls Try.prog 21 #[.agg #[.string (txt a1.name), .string (txt a1.key), .int .i64 a1.kind, .int .u64 (a1.num : Int), .string (txt a1.text), .slice A1 q.len c1], .slice (some ⟨g, o, none⟩) 0 0] w3.drew (PTreP d (ya, yf) (.bool bb) w3.drew)) := Lib.hid
    (HI.out _ _ w3.drew (Nat.le_trans HD.out HB3.out.drew.size) (LieB.make (HR.out.under HB3.out.drew HD.out (Nat.le_refl _))) (by rw [HL1.out]; exact WayV.nil _ _ _ _))
  refine wp_region_noPanic ?_
  refine wp_region_held_drew (S := fun _ => True) (by kernel_rfl) trivial (fun hS => ?_)
  refine held_more (S' := fun w' => Blk w' w.heap.size 27 #[.string (txt a.name), .string (txt a.key), .int .i64 a.kind, .int .u64 (a.num : Int), .string (txt a.text), .slice (some ⟨b, p, none⟩) f.len c] ∧ ∀ j u, (ndC a1 (.slice A1 q.len c1))[j]? = some u → w'.cell? ⟨b, p + i * 6 + j, none⟩ = some u) (fun _ _ => trivial) _ _ _ _ ?_
  replace hS := And.intro HX4.out HC4.out
  refine wpAnyH_take (i := 0) (oi := ?o3_0_1) (v := ?v3_0_1) ?i3_0_1 (by kernel_rfl) (by kernel_rfl) (by kernel_rfl) (fun _ _ _ h => h) (Or.inl ⟨?g3_0_1, ?y3_0_1⟩) hS ?_
  case i3_0_1 => simp only [List.getElem?_toArray, List.getElem?_cons_succ, List.getElem?_cons_zero]; rfl
  case g3_0_1 => rfl
  case y3_0_1 => (intro w hSw; (go_simp <;> with_reducible rfl))
  (try simp only [Act.put, List.setIfInBounds_toArray, List.set_cons_zero, List.set_cons_succ])
  refine wpAnyH_take (i := 1) (oi := ?o3_1_2) (v := ?v3_1_2) ?i3_1_2 (by kernel_rfl) (by kernel_rfl) (by kernel_rfl) (fun _ _ _ h => h) (Or.inl ⟨?g3_1_2, ?y3_1_2⟩) hS ?_
  case i3_1_2 => simp only [List.getElem?_toArray, List.getElem?_cons_succ, List.getElem?_cons_zero]; rfl
  case g3_1_2 => rfl
  case y3_1_2 => (intro w hSw; have q5 := (hSw.1.cell 5).trans rfl; (go_simp <;> with_reducible rfl))
  (try simp only [Act.put, List.setIfInBounds_toArray, List.set_cons_zero, List.set_cons_succ])
  refine wpAnyH_take (i := 2) (oi := ?o3_2_3) (v := ?v3_2_3) ?i3_2_3 (by kernel_rfl) (by kernel_rfl) (by kernel_rfl) (fun _ _ _ h => h) (Or.inl ⟨?g3_2_3, ?y3_2_3⟩) hS ?_
  case i3_2_3 => simp only [List.getElem?_toArray, List.getElem?_cons_succ, List.getElem?_cons_zero]; rfl
  case g3_2_3 => rfl
  case y3_2_3 => (intro w hSw; (go_simp <;> with_reducible rfl))
  (try simp only [Act.put, List.setIfInBounds_toArray, List.set_cons_zero, List.set_cons_succ])
  refine wpAnyH_take (i := 3) (oi := ?o3_3_4) (v := ?v3_3_4) ?i3_3_4 (by kernel_rfl) (by kernel_rfl) (by kernel_rfl) (fun _ _ _ h => h) (Or.inl ⟨?g3_3_4, ?y3_3_4⟩) hS ?_
  case i3_3_4 => simp only [List.getElem?_toArray, List.getElem?_cons_succ, List.getElem?_cons_zero]; rfl
  case g3_3_4 => rfl
  case y3_3_4 => (intro w hSw; (go_simp <;> with_reducible rfl))
  (try simp only [Act.put, List.setIfInBounds_toArray, List.set_cons_zero, List.set_cons_succ])
  refine wpAnyH_take (i := 4) (oi := ?o3_4_5) (v := ?v3_4_5) ?i3_4_5 (by kernel_rfl) (by kernel_rfl) (by kernel_rfl) (fun _ _ _ h => h) (Or.inl ⟨?g3_4_5, ?y3_4_5⟩) hS ?_
  case i3_4_5 => simp only [List.getElem?_toArray, List.getElem?_cons_succ, List.getElem?_cons_zero]; rfl
  case g3_4_5 => rfl
  case y3_4_5 => (intro w hSw; have u0 : w.cell? ⟨b, p + i * 6, none⟩ = _ := hSw.2 0 _ rfl; have u1 := hSw.2 1 _ rfl; have u2 := hSw.2 2 _ rfl; have u3 := hSw.2 3 _ rfl; have u4 := hSw.2 4 _ rfl; have u5 := hSw.2 5 _ rfl; (go_simp <;> with_reducible rfl))
  (try simp only [Act.put, List.setIfInBounds_toArray, List.set_cons_zero, List.set_cons_succ])
  refine wpAnyH_take (i := 5) (oi := ?o3_5_6) (v := ?v3_5_6) ?i3_5_6 (by kernel_rfl) (by kernel_rfl) (by kernel_rfl) (fun _ _ _ h => h) (Or.inl ⟨?g3_5_6, ?y3_5_6⟩) hS ?_
  case i3_5_6 => simp only [List.getElem?_toArray, List.getElem?_cons_succ, List.getElem?_cons_zero]; rfl
  case g3_5_6 => rfl
  case y3_5_6 => (intro w hSw; (go_simp <;> with_reducible rfl))
  (try simp only [Act.put, List.setIfInBounds_toArray, List.set_cons_zero, List.set_cons_succ])
  refine wpAnyH_take (i := 6) (oi := ?o3_6_7) (v := ?v3_6_7) ?i3_6_7 (by kernel_rfl) (by kernel_rfl) (by kernel_rfl) (fun _ _ _ h => h) (Or.inl ⟨?g3_6_7, ?y3_6_7⟩) hS ?_
  case i3_6_7 => simp only [List.getElem?_toArray, List.getElem?_cons_succ, List.getElem?_cons_zero]; rfl
  case g3_6_7 => rfl
  case y3_6_7 => (intro w hSw; (go_simp <;> with_reducible rfl))
  (try simp only [Act.put, List.setIfInBounds_toArray, List.set_cons_zero, List.set_cons_succ])
  refine wpAnyH_ready (rs := [7]) (by kernel_rfl) (by simp) ?_
  refine (AllReadyH.cons (o := ?or3_8_7) ?ir3_8_7 (fun K hK => ?str3_8_7) AllReadyH.nil)
  case ir3_8_7 => simp only [List.getElem?_toArray, List.getElem?_cons_succ, List.getElem?_cons_zero]; rfl
  rw [if_pos (by rfl)]
  go_simp
  refine HI1.out.mono ?_
  intro r w6 hr
  obtain ⟨A6, c6, rfl, hl6, hb6⟩ := hr.flat
  have HL6 := Lib.hid hl6
  have HB6 := Lib.hid (HB3.out.drew.trans (hb6.mono HB3.out.drew.size))
  have HX6 := Lib.hid (HX4.out.below hb6 HX4.out.lt)
  have RE6 := Lib.hid (RE4.out.below hb6 RE4.out.lt)
  have HW6 := Lib.hid hb6
  clear hb6 hr hl6
  go_wp2_with fail
  refine hK.out _ _ ?sr3_8_7 (fun hS => ?_)
  case sr3_8_7 => (exact ⟨HX6.out, fun j u hu => (HW6.out.cell (p := ⟨b, p + i * 6 + j, none⟩) (Nat.lt_of_lt_of_le HGL.out.2 HB3.out.drew.size)).trans (HC4.out j u hu)⟩)
  clear hK K
  (try simp only [Act.put, List.setIfInBounds_toArray, List.set_cons_zero, List.set_cons_succ])
  refine wpAnyH_take (i := 8) (oi := ?o3_8_9) (v := ?v3_8_9) ?i3_8_9 (by kernel_rfl) (by kernel_rfl) (by kernel_rfl) (fun _ _ _ h => h) (Or.inl ⟨?g3_8_9, ?y3_8_9⟩) hS ?_
  case i3_8_9 => simp only [List.getElem?_toArray, List.getElem?_cons_succ, List.getElem?_cons_zero]; rfl
  case g3_8_9 => rfl
  case y3_8_9 => (intro w hSw; (go_simp <;> with_reducible rfl))
  (try simp only [Act.put, List.setIfInBounds_toArray, List.set_cons_zero, List.set_cons_succ])
  refine wpAnyH_take (i := 9) (oi := ?o3_9_10) (v := ?v3_9_10) ?i3_9_10 (by kernel_rfl) (by kernel_rfl) (by kernel_rfl) (fun _ _ _ h => h) (Or.inl ⟨?g3_9_10, ?y3_9_10⟩) hS ?_
  case i3_9_10 => simp only [List.getElem?_toArray, List.getElem?_cons_succ, List.getElem?_cons_zero]; rfl
  case g3_9_10 => rfl
  case y3_9_10 => (intro w hSw; (go_simp <;> with_reducible rfl))
  (try simp only [Act.put, List.setIfInBounds_toArray, List.set_cons_zero, List.set_cons_succ])
  refine wpAnyH_ready (rs := [10]) (by kernel_rfl) (by simp) ?_
  refine (AllReadyH.cons (o := ?or3_11_10) ?ir3_11_10 (fun K hK => ?str3_11_10) AllReadyH.nil)
  case ir3_11_10 => simp only [List.getElem?_toArray, List.getElem?_cons_succ, List.getElem?_cons_zero]; rfl
  rw [if_pos (by rfl)]
  have fz0 : (w6).frozen? ⟨w.heap.size + 1, 0, none⟩ = false := RE6.out.frozen 0
  have fq0 := (RE6.out.cell 0).trans rfl
  have fz1 : (w6).frozen? ⟨w.heap.size + 1, 1, none⟩ = false := RE6.out.frozen 1
  have fq1 := (RE6.out.cell 1).trans rfl
  have fz2 : (w6).frozen? ⟨w.heap.size + 1, 2, none⟩ = false := RE6.out.frozen 2
  have fq2 := (RE6.out.cell 2).trans rfl
  have fz3 : (w6).frozen? ⟨w.heap.size + 1, 3, none⟩ = false := RE6.out.frozen 3
  have fq3 := (RE6.out.cell 3).trans rfl
  have fz4 : (w6).frozen? ⟨w.heap.size + 1, 4, none⟩ = false := RE6.out.frozen 4
  have fq4 := (RE6.out.cell 4).trans rfl
  have fz5 : (w6).frozen? ⟨w.heap.size + 1, 5, none⟩ = false := RE6.out.frozen 5
  have fq5 := (RE6.out.cell 5).trans rfl
  go_simp
  refine hK.out _ _ ?sr3_11_10 (fun hS => ?_)
  case sr3_11_10 => (exact ⟨(set6_other (w := w6) (b := w.heap.size + 1) (by omega)).trans HX6.out, fun j u hu => (World.cell?_of_block (set6_other (w := w6) (b := w.heap.size + 1) (by have := HGL.out.2; show b ≠ _; omega))).trans ((HW6.out.cell (p := ⟨b, p + i * 6 + j, none⟩) (Nat.lt_of_lt_of_le HGL.out.2 HB3.out.drew.size)).trans (HC4.out j u hu))⟩)
  clear hK K
  (try simp only [Act.put, List.setIfInBounds_toArray, List.set_cons_zero, List.set_cons_succ])
  refine wpAnyH_take (i := 11) (oi := ?o3_11_12) (v := ?v3_11_12) ?i3_11_12 (by kernel_rfl) (by kernel_rfl) (by kernel_rfl) (fun _ _ _ h => h) (Or.inl ⟨?g3_11_12, ?y3_11_12⟩) hS ?_
  case i3_11_12 => simp only [List.getElem?_toArray, List.getElem?_cons_succ, List.getElem?_cons_zero]; rfl
  case g3_11_12 => rfl
  case y3_11_12 => (intro w hSw; (go_simp <;> with_reducible rfl))
  (try simp only [Act.put, List.setIfInBounds_toArray, List.set_cons_zero, List.set_cons_succ])
  refine wpAnyH_done (by kernel_rfl) ?_ _
  refine NoPanic.normal ?_
  clear hS
  have RZ : Hid (Blk (set6 w6 (w.heap.size + 1) (.string (txt ya.name)) (.string (txt ya.key)) (.int .i64 ya.kind) (.int .u64 (ya.num : Int)) (.string (txt ya.text)) (.slice A6 yf.len c6)) (w.heap.size + 1) 27 #[.string (txt ya.name), .string (txt ya.key), .int .i64 ya.kind, .int .u64 (ya.num : Int), .string (txt ya.text), .slice A6 yf.len c6]) := Lib.hid (RE6.out.set6 _ _ _ _ _ _)
  have HZ : Hid (Below w.heap.size w (set6 w6 (w.heap.size + 1) (.string (txt ya.name)) (.string (txt ya.key)) (.int .i64 ya.kind) (.int .u64 (ya.num : Int)) (.string (txt ya.text)) (.slice A6 yf.len c6))) := Lib.hid (HB6.out.trans (set6_below (by omega)))
  have HLZ : Hid (LieP d w.heap.size (set6 w6 (w.heap.size + 1) (.string (txt ya.name)) (.string (txt ya.key)) (.int .i64 ya.kind) (.int .u64 (ya.num : Int)) (.string (txt ya.text)) (.slice A6 yf.len c6)) (ndC ya (.slice A6 yf.len c6)) (ya, yf)) := Lib.hid ((HL6.out.set6 (by have := HD.out; omega) (Nat.lt_of_lt_of_le (show w.heap.size + 1 < w3.heap.size from RE3.out.lt) (Nat.le_refl _)) _ _ _ _ _ _).after HB3.out.size)
  go_wp2
  refine bodyPost_ret (res_ct9 rfl _ _ (w.heap.size + 1) 27 _ (0, 0) _ rfl RZ.out Try.underlying27 rfl (by kernel_rfl)) rfl ?_
  exact ⟨_, rfl, HLZ.out, HZ.out⟩
set_option maxRecDepth 100000 in
set_option maxHeartbeats 4000000 in
theorem rget_some_part (d : Nat) (a : NdD) (f : NdF) (A : Option Addr) (c : Nat) (s : Stp) (l : List Stp) (g o N m i : Nat) (a1 : NdD) (q : NdF) (ya : NdD) (yf : NdF) (bb : Bool) (w : World) (hd : d ≤ w.heap.size) (hx : LieB d w (ndC a (.slice A f.len c)) (a, f)) (hl : f.len ≤ 1000000) (hv : WayV w.heap.size w (.slice (some ⟨g, o, none⟩) N m) (s :: l)) (hf : findN s f = some i) (hy : f.get? i = some (a1, q)) (hm : m ≠ 1)
    (hI : ∀ (cs : List Value) (v : Value) (W : World), d ≤ W.heap.size → LieB d W cs (a1, q) → WayV W.heap.size W v l → Calls Try.prog 21 #[.agg cs.toArray, v] W (PTreP d (ya, yf) (.bool bb) W)) :
    Calls Try.prog 21 #[.agg #[.string (txt a.name), .string (txt a.key), .int .i64 a.kind, .int .u64 (a.num : Int), .string (txt a.text), .slice A f.len c], .slice (some ⟨g, o, none⟩) N m] w (PTreP d (ya, yf) (.bool bb) w) := by
  obtain ⟨h1, h2, h3, h4⟩ := get_boxes a f A c w (hx.keep (fun _ _ => rfl) hd)
  obtain ⟨g', o', eg, hNl, hNm, hg, hs1, hs2⟩ := hv.at (j := 0) (s := s) rfl
  injection eg with eg
  injection eg with eg1 eg2 eg3
  subst eg1 eg2
  have hs : Stp0 w g o s := ⟨by simpa using hs1, by simpa using hs2⟩
  have hN : 0 < N := by rw [hNl]; simp
  have e1 : ((N : Int) == 0) = false := by rw [beq_eq_false_iff_ne]; omega
  have e2 : (N == 0) = false := by rw [beq_eq_false_iff_ne]; omega
  have i1 : (0 : Int) < (N : Int) := by omega
  have i2 : (1 : Int) ≤ (N : Int) := by omega
  have i3 : (N : Int) ≤ (m : Int) := by omega
  have HF : Hid (Calls Try.prog 35 #[.agg #[.string (txt a.name), .string (txt a.key), .int .i64 a.kind, .int .u64 (a.num : Int), .string (txt a.text), .slice A f.len c], .agg #[.string (txt s.1), .string (txt s.2)]] ((w.alloc (.cells #[.string (txt a.name), .string (txt a.key), .int .i64 a.kind, .int .u64 (a.num : Int), .string (txt a.text), .slice A f.len c] 27)).alloc (.cells #[.string ⟨#[]⟩, .string ⟨#[]⟩, .int .i64 0, .int .u64 0, .string ⟨#[]⟩, .slice none 0 0] 27)).drew (Ans9 (.int .i64 (i : Int)) ((w.alloc (.cells #[.string (txt a.name), .string (txt a.key), .int .i64 a.kind, .int .u64 (a.num : Int), .string (txt a.text), .slice A f.len c] 27)).alloc (.cells #[.string ⟨#[]⟩, .string ⟨#[]⟩, .int .i64 0, .int .u64 0, .string ⟨#[]⟩, .slice none 0 0] 27)).drew)) := Lib.hid (by
    have h := rfindn_any s (a, f) _ ((w.alloc (.cells #[.string (txt a.name), .string (txt a.key), .int .i64 a.kind, .int .u64 (a.num : Int), .string (txt a.text), .slice A f.len c] 27)).alloc (.cells #[.string ⟨#[]⟩, .string ⟨#[]⟩, .int .i64 0, .int .u64 0, .string ⟨#[]⟩, .slice none 0 0] 27)).drew h4 hl
    rw [show findIx s f = (i : Int) by unfold findIx; rw [hf]] at h
    exact h)
  have hk := LieB.row hx
  have hi := Fr.get_lt hy
  obtain ⟨b, p, A1, c1, rfl, -, -, hbl, hrow, hcl⟩ := hk.at hy
  have j1 : (0 : Int) ≤ (i : Int) := by omega
  have j2 : (i : Int) < (f.len : Int) := by omega
  have HX := Lib.hid h1
  have RE := Lib.hid h2
  have HB := Lib.hid h3
  have HSt := Lib.hid (hs.below hg h3.drew)
  have HGL := Lib.hid (And.intro hg (Nat.lt_of_lt_of_le hbl hd))
  have HD := Lib.hid hd
  have HI := Lib.hid hI
  have HV := Lib.hid hv
  have HC := Lib.hid hcl
  have HR := Lib.hid hrow
  skip
  clear h1 h2 h3 h4 hx hl hs hf hg hk hbl hrow hcl hI hv hs1 hs2 hNl hNm hy hi hd
  go_enter Try.func21, Try.ntmps21
  go_wp2_with fail
  refine wp_region_noPanic ?_
  refine wp_region_held_drew (S := fun _ => True) (by kernel_rfl) trivial (fun hS => ?_)
  refine held_more (S' := fun w' => Blk w' w.heap.size 27 #[.string (txt a.name), .string (txt a.key), .int .i64 a.kind, .int .u64 (a.num : Int), .string (txt a.text), .slice (some ⟨b, p, none⟩) f.len c] ∧ Stp0 w' g o s) (fun _ _ => trivial) _ _ _ _ ?_
  replace hS := And.intro (HX.out.below (Below.refl _ _).drew HX.out.lt) HSt.out
  refine wpAnyH_take (i := 0) (oi := ?o4_0_1) (v := ?v4_0_1) ?i4_0_1 (by kernel_rfl) (by kernel_rfl) (by kernel_rfl) (fun _ _ _ h => h) (Or.inl ⟨?g4_0_1, ?y4_0_1⟩) hS ?_
  case i4_0_1 => simp only [List.getElem?_toArray, List.getElem?_cons_succ, List.getElem?_cons_zero]; rfl
  case g4_0_1 => rfl
  case y4_0_1 => (intro w hSw; have q0 := (hSw.1.cell 0).trans rfl; have q1 := (hSw.1.cell 1).trans rfl; have q2 := (hSw.1.cell 2).trans rfl; have q3 := (hSw.1.cell 3).trans rfl; have q4 := (hSw.1.cell 4).trans rfl; have q5 := (hSw.1.cell 5).trans rfl; (go_simp <;> with_reducible rfl))
  (try simp only [Act.put, List.setIfInBounds_toArray, List.set_cons_zero, List.set_cons_succ])
  refine wpAnyH_take (i := 1) (oi := ?o4_1_2) (v := ?v4_1_2) ?i4_1_2 (by kernel_rfl) (by kernel_rfl) (by kernel_rfl) (fun _ _ _ h => h) (Or.inl ⟨?g4_1_2, ?y4_1_2⟩) hS ?_
  case i4_1_2 => simp only [List.getElem?_toArray, List.getElem?_cons_succ, List.getElem?_cons_zero]; rfl
  case g4_1_2 => rfl
  case y4_1_2 => (intro w hSw; (go_simp <;> with_reducible rfl))
  (try simp only [Act.put, List.setIfInBounds_toArray, List.set_cons_zero, List.set_cons_succ])
  refine wpAnyH_take (i := 2) (oi := ?o4_2_3) (v := ?v4_2_3) ?i4_2_3 (by kernel_rfl) (by kernel_rfl) (by kernel_rfl) (fun _ _ _ h => h) (Or.inl ⟨?g4_2_3, ?y4_2_3⟩) hS ?_
  case i4_2_3 => simp only [List.getElem?_toArray, List.getElem?_cons_succ, List.getElem?_cons_zero]; rfl
  case g4_2_3 => rfl
  case y4_2_3 => (intro w hSw; (go_simp <;> with_reducible rfl))
  (try simp only [Act.put, List.setIfInBounds_toArray, List.set_cons_zero, List.set_cons_succ])
  refine wpAnyH_take (i := 3) (oi := ?o4_3_4) (v := ?v4_3_4) ?i4_3_4 (by kernel_rfl) (by kernel_rfl) (by kernel_rfl) (fun _ _ _ h => h) (Or.inl ⟨?g4_3_4, ?y4_3_4⟩) hS ?_
  case i4_3_4 => simp only [List.getElem?_toArray, List.getElem?_cons_succ, List.getElem?_cons_zero]; rfl
  case g4_3_4 => rfl
  case y4_3_4 => (intro w hSw; have q0 := hSw.2.1; have q1 := hSw.2.2; (go_simp <;> with_reducible rfl))
  (try simp only [Act.put, List.setIfInBounds_toArray, List.set_cons_zero, List.set_cons_succ])
  refine wpAnyH_ready (rs := [4]) (by kernel_rfl) (by simp) ?_
  refine (AllReadyH.cons (o := ?or4_5_4) ?ir4_5_4 (fun K hK => ?str4_5_4) AllReadyH.nil)
  case ir4_5_4 => simp only [List.getElem?_toArray, List.getElem?_cons_succ, List.getElem?_cons_zero]; rfl
  rw [if_pos (by rfl)]
  go_simp
  refine HF.out.mono ?_
  rintro r w3 ⟨rfl, hb3⟩
  have HB3 := Lib.hid (HB.out.drew.trans (hb3.mono HB.out.drew.size))
  have RE3 := Lib.hid ((RE.out.below (Below.refl _ _).drew RE.out.lt).below hb3 RE.out.lt)
  have HX3 := Lib.hid ((HX.out.below (Below.refl _ _).drew HX.out.lt).below hb3 HX.out.lt)
  have HW3 := Lib.hid hb3
  clear hb3
  go_wp2_with fail
  refine hK.out _ _ ?sr4_5_4 (fun hS => ?_)
  case sr4_5_4 => (exact ⟨HX3.out, HSt.out.below (Nat.lt_of_lt_of_le HGL.out.1 HB.out.drew.size) HW3.out⟩)
  clear hK K
  (try simp only [Act.put, List.setIfInBounds_toArray, List.set_cons_zero, List.set_cons_succ])
  refine wpAnyH_take (i := 5) (oi := ?o4_5_6) (v := ?v4_5_6) ?i4_5_6 (by kernel_rfl) (by kernel_rfl) (by kernel_rfl) (fun _ _ _ h => h) (Or.inl ⟨?g4_5_6, ?y4_5_6⟩) hS ?_
  case i4_5_6 => simp only [List.getElem?_toArray, List.getElem?_cons_succ, List.getElem?_cons_zero]; rfl
  case g4_5_6 => rfl
  case y4_5_6 => (intro w hSw; (go_simp <;> with_reducible rfl))
  (try simp only [Act.put, List.setIfInBounds_toArray, List.set_cons_zero, List.set_cons_succ])
  refine wpAnyH_done (by kernel_rfl) ?_ _
  refine NoPanic.normal ?_
  clear hS
  go_wp2_with fail
  have HX4 := Lib.hid (HX3.out.below (Below.refl _ _).drew HX3.out.lt)
  have RE4 := Lib.hid (RE3.out.below (Below.refl _ _).drew RE3.out.lt)
  have HC4 : Hid (∀ j u, (ndC a1 (.slice A1 q.len c1))[j]? = some u → w3.drew.cell? ⟨b, p + i * 6 + j, none⟩ = some u) := Lib.hid (fun j u hu => (HB3.out.drew.cell (p := ⟨b, p + i * 6 + j, none⟩) HGL.out.2).trans (HC.out j u hu))
  have HI1 : Hid (Calls Try.prog 21 #[.agg #[.string (txt a1.name), .string (txt a1.key), .int .i64 a1.kind, .int .u64 (a1.num : Int), .string (txt a1.text), .slice A1 q.len c1], .slice (some ⟨g, o + 2, none⟩) (N - 1) (m - 1)] w3.drew (PTreP d (ya, yf) (.bool bb) w3.drew)) := Lib.hid
    (HI.out _ _ w3.drew (Nat.le_trans HD.out HB3.out.drew.size) (LieB.make (HR.out.under HB3.out.drew HD.out (Nat.le_refl _))) (way_tail1 (HV.out.under HB3.out.drew (Nat.le_refl _) HB3.out.drew.size)))
  refine wp_region_noPanic ?_
  refine wp_region_held_drew (S := fun _ => True) (by kernel_rfl) trivial (fun hS => ?_)
  refine held_more (S' := fun w' => Blk w' w.heap.size 27 #[.string (txt a.name), .string (txt a.key), .int .i64 a.kind, .int .u64 (a.num : Int), .string (txt a.text), .slice (some ⟨b, p, none⟩) f.len c] ∧ ∀ j u, (ndC a1 (.slice A1 q.len c1))[j]? = some u → w'.cell? ⟨b, p + i * 6 + j, none⟩ = some u) (fun _ _ => trivial) _ _ _ _ ?_
  replace hS := And.intro HX4.out HC4.out
  refine wpAnyH_take (i := 0) (oi := ?o5_0_1) (v := ?v5_0_1) ?i5_0_1 (by kernel_rfl) (by kernel_rfl) (by kernel_rfl) (fun _ _ _ h => h) (Or.inl ⟨?g5_0_1, ?y5_0_1⟩) hS ?_
  case i5_0_1 => simp only [List.getElem?_toArray, List.getElem?_cons_succ, List.getElem?_cons_zero]; rfl
  case g5_0_1 => rfl
  case y5_0_1 => (intro w hSw; (go_simp <;> with_reducible rfl))
  (try simp only [Act.put, List.setIfInBounds_toArray, List.set_cons_zero, List.set_cons_succ])
  refine wpAnyH_take (i := 1) (oi := ?o5_1_2) (v := ?v5_1_2) ?i5_1_2 (by kernel_rfl) (by kernel_rfl) (by kernel_rfl) (fun _ _ _ h => h) (Or.inl ⟨?g5_1_2, ?y5_1_2⟩) hS ?_
  case i5_1_2 => simp only [List.getElem?_toArray, List.getElem?_cons_succ, List.getElem?_cons_zero]; rfl
  case g5_1_2 => rfl
  case y5_1_2 => (intro w hSw; have q5 := (hSw.1.cell 5).trans rfl; (go_simp <;> with_reducible rfl))
  (try simp only [Act.put, List.setIfInBounds_toArray, List.set_cons_zero, List.set_cons_succ])
  refine wpAnyH_take (i := 2) (oi := ?o5_2_3) (v := ?v5_2_3) ?i5_2_3 (by kernel_rfl) (by kernel_rfl) (by kernel_rfl) (fun _ _ _ h => h) (Or.inl ⟨?g5_2_3, ?y5_2_3⟩) hS ?_
  case i5_2_3 => simp only [List.getElem?_toArray, List.getElem?_cons_succ, List.getElem?_cons_zero]; rfl
  case g5_2_3 => rfl
  case y5_2_3 => (intro w hSw; (go_simp <;> with_reducible rfl))
  (try simp only [Act.put, List.setIfInBounds_toArray, List.set_cons_zero, List.set_cons_succ])
  refine wpAnyH_take (i := 3) (oi := ?o5_3_4) (v := ?v5_3_4) ?i5_3_4 (by kernel_rfl) (by kernel_rfl) (by kernel_rfl) (fun _ _ _ h => h) (Or.inl ⟨?g5_3_4, ?y5_3_4⟩) hS ?_
  case i5_3_4 => simp only [List.getElem?_toArray, List.getElem?_cons_succ, List.getElem?_cons_zero]; rfl
  case g5_3_4 => rfl
  case y5_3_4 => (intro w hSw; (go_simp <;> with_reducible rfl))
  (try simp only [Act.put, List.setIfInBounds_toArray, List.set_cons_zero, List.set_cons_succ])
  refine wpAnyH_take (i := 4) (oi := ?o5_4_5) (v := ?v5_4_5) ?i5_4_5 (by kernel_rfl) (by kernel_rfl) (by kernel_rfl) (fun _ _ _ h => h) (Or.inl ⟨?g5_4_5, ?y5_4_5⟩) hS ?_
  case i5_4_5 => simp only [List.getElem?_toArray, List.getElem?_cons_succ, List.getElem?_cons_zero]; rfl
  case g5_4_5 => rfl
  case y5_4_5 => (intro w hSw; have u0 : w.cell? ⟨b, p + i * 6, none⟩ = _ := hSw.2 0 _ rfl; have u1 := hSw.2 1 _ rfl; have u2 := hSw.2 2 _ rfl; have u3 := hSw.2 3 _ rfl; have u4 := hSw.2 4 _ rfl; have u5 := hSw.2 5 _ rfl; (go_simp <;> with_reducible rfl))
  (try simp only [Act.put, List.setIfInBounds_toArray, List.set_cons_zero, List.set_cons_succ])
  refine wpAnyH_take (i := 5) (oi := ?o5_5_6) (v := ?v5_5_6) ?i5_5_6 (by kernel_rfl) (by kernel_rfl) (by kernel_rfl) (fun _ _ _ h => h) (Or.inl ⟨?g5_5_6, ?y5_5_6⟩) hS ?_
  case i5_5_6 => simp only [List.getElem?_toArray, List.getElem?_cons_succ, List.getElem?_cons_zero]; rfl
  case g5_5_6 => rfl
  case y5_5_6 => (intro w hSw; (go_simp <;> with_reducible rfl))
  (try simp only [Act.put, List.setIfInBounds_toArray, List.set_cons_zero, List.set_cons_succ])
  refine wpAnyH_take (i := 6) (oi := ?o5_6_7) (v := ?v5_6_7) ?i5_6_7 (by kernel_rfl) (by kernel_rfl) (by kernel_rfl) (fun _ _ _ h => h) (Or.inl ⟨?g5_6_7, ?y5_6_7⟩) hS ?_
  case i5_6_7 => simp only [List.getElem?_toArray, List.getElem?_cons_succ, List.getElem?_cons_zero]; rfl
  case g5_6_7 => rfl
  case y5_6_7 => (intro w hSw; (go_simp <;> with_reducible rfl))
  (try simp only [Act.put, List.setIfInBounds_toArray, List.set_cons_zero, List.set_cons_succ])
  refine wpAnyH_ready (rs := [7]) (by kernel_rfl) (by simp) ?_
  refine (AllReadyH.cons (o := ?or5_8_7) ?ir5_8_7 (fun K hK => ?str5_8_7) AllReadyH.nil)
  case ir5_8_7 => simp only [List.getElem?_toArray, List.getElem?_cons_succ, List.getElem?_cons_zero]; rfl
  rw [if_pos (by rfl)]
  go_simp
  refine HI1.out.mono ?_
  intro r w6 hr
  obtain ⟨A6, c6, rfl, hl6, hb6⟩ := hr.flat
  have HL6 := Lib.hid hl6
  have HB6 := Lib.hid (HB3.out.drew.trans (hb6.mono HB3.out.drew.size))
  have HX6 := Lib.hid (HX4.out.below hb6 HX4.out.lt)
  have RE6 := Lib.hid (RE4.out.below hb6 RE4.out.lt)
  have HW6 := Lib.hid hb6
  clear hb6 hr hl6
  go_wp2_with fail
  refine hK.out _ _ ?sr5_8_7 (fun hS => ?_)
  case sr5_8_7 => (exact ⟨HX6.out, fun j u hu => (HW6.out.cell (p := ⟨b, p + i * 6 + j, none⟩) (Nat.lt_of_lt_of_le HGL.out.2 HB3.out.drew.size)).trans (HC4.out j u hu)⟩)
  clear hK K
  (try simp only [Act.put, List.setIfInBounds_toArray, List.set_cons_zero, List.set_cons_succ])
  refine wpAnyH_take (i := 8) (oi := ?o5_8_9) (v := ?v5_8_9) ?i5_8_9 (by kernel_rfl) (by kernel_rfl) (by kernel_rfl) (fun _ _ _ h => h) (Or.inl ⟨?g5_8_9, ?y5_8_9⟩) hS ?_
  case i5_8_9 => simp only [List.getElem?_toArray, List.getElem?_cons_succ, List.getElem?_cons_zero]; rfl
  case g5_8_9 => rfl
  case y5_8_9 => (intro w hSw; (go_simp <;> with_reducible rfl))
  (try simp only [Act.put, List.setIfInBounds_toArray, List.set_cons_zero, List.set_cons_succ])
  refine wpAnyH_take (i := 9) (oi := ?o5_9_10) (v := ?v5_9_10) ?i5_9_10 (by kernel_rfl) (by kernel_rfl) (by kernel_rfl) (fun _ _ _ h => h) (Or.inl ⟨?g5_9_10, ?y5_9_10⟩) hS ?_
  case i5_9_10 => simp only [List.getElem?_toArray, List.getElem?_cons_succ, List.getElem?_cons_zero]; rfl
  case g5_9_10 => rfl
  case y5_9_10 => (intro w hSw; (go_simp <;> with_reducible rfl))
  (try simp only [Act.put, List.setIfInBounds_toArray, List.set_cons_zero, List.set_cons_succ])
  refine wpAnyH_ready (rs := [10]) (by kernel_rfl) (by simp) ?_
  refine (AllReadyH.cons (o := ?or5_11_10) ?ir5_11_10 (fun K hK => ?str5_11_10) AllReadyH.nil)
  case ir5_11_10 => simp only [List.getElem?_toArray, List.getElem?_cons_succ, List.getElem?_cons_zero]; rfl
  rw [if_pos (by rfl)]
  have fz0 : (w6).frozen? ⟨w.heap.size + 1, 0, none⟩ = false := RE6.out.frozen 0
  have fq0 := (RE6.out.cell 0).trans rfl
  have fz1 : (w6).frozen? ⟨w.heap.size + 1, 1, none⟩ = false := RE6.out.frozen 1
  have fq1 := (RE6.out.cell 1).trans rfl
  have fz2 : (w6).frozen? ⟨w.heap.size + 1, 2, none⟩ = false := RE6.out.frozen 2
  have fq2 := (RE6.out.cell 2).trans rfl
  have fz3 : (w6).frozen? ⟨w.heap.size + 1, 3, none⟩ = false := RE6.out.frozen 3
  have fq3 := (RE6.out.cell 3).trans rfl
  have fz4 : (w6).frozen? ⟨w.heap.size + 1, 4, none⟩ = false := RE6.out.frozen 4
  have fq4 := (RE6.out.cell 4).trans rfl
  have fz5 : (w6).frozen? ⟨w.heap.size + 1, 5, none⟩ = false := RE6.out.frozen 5
  have fq5 := (RE6.out.cell 5).trans rfl
  go_simp
  refine hK.out _ _ ?sr5_11_10 (fun hS => ?_)
  case sr5_11_10 => (exact ⟨(set6_other (w := w6) (b := w.heap.size + 1) (by omega)).trans HX6.out, fun j u hu => (World.cell?_of_block (set6_other (w := w6) (b := w.heap.size + 1) (by have := HGL.out.2; show b ≠ _; omega))).trans ((HW6.out.cell (p := ⟨b, p + i * 6 + j, none⟩) (Nat.lt_of_lt_of_le HGL.out.2 HB3.out.drew.size)).trans (HC4.out j u hu))⟩)
  clear hK K
  (try simp only [Act.put, List.setIfInBounds_toArray, List.set_cons_zero, List.set_cons_succ])
  refine wpAnyH_take (i := 11) (oi := ?o5_11_12) (v := ?v5_11_12) ?i5_11_12 (by kernel_rfl) (by kernel_rfl) (by kernel_rfl) (fun _ _ _ h => h) (Or.inl ⟨?g5_11_12, ?y5_11_12⟩) hS ?_
  case i5_11_12 => simp only [List.getElem?_toArray, List.getElem?_cons_succ, List.getElem?_cons_zero]; rfl
  case g5_11_12 => rfl
  case y5_11_12 => (intro w hSw; (go_simp <;> with_reducible rfl))
  (try simp only [Act.put, List.setIfInBounds_toArray, List.set_cons_zero, List.set_cons_succ])
  refine wpAnyH_done (by kernel_rfl) ?_ _
  refine NoPanic.normal ?_
  clear hS
  have RZ : Hid (Blk (set6 w6 (w.heap.size + 1) (.string (txt ya.name)) (.string (txt ya.key)) (.int .i64 ya.kind) (.int .u64 (ya.num : Int)) (.string (txt ya.text)) (.slice A6 yf.len c6)) (w.heap.size + 1) 27 #[.string (txt ya.name), .string (txt ya.key), .int .i64 ya.kind, .int .u64 (ya.num : Int), .string (txt ya.text), .slice A6 yf.len c6]) := Lib.hid (RE6.out.set6 _ _ _ _ _ _)
  have HZ : Hid (Below w.heap.size w (set6 w6 (w.heap.size + 1) (.string (txt ya.name)) (.string (txt ya.key)) (.int .i64 ya.kind) (.int .u64 (ya.num : Int)) (.string (txt ya.text)) (.slice A6 yf.len c6))) := Lib.hid (HB6.out.trans (set6_below (by omega)))
  have HLZ : Hid (LieP d w.heap.size (set6 w6 (w.heap.size + 1) (.string (txt ya.name)) (.string (txt ya.key)) (.int .i64 ya.kind) (.int .u64 (ya.num : Int)) (.string (txt ya.text)) (.slice A6 yf.len c6)) (ndC ya (.slice A6 yf.len c6)) (ya, yf)) := Lib.hid ((HL6.out.set6 (by have := HD.out; omega) (Nat.lt_of_lt_of_le (show w.heap.size + 1 < w3.heap.size from RE3.out.lt) (Nat.le_refl _)) _ _ _ _ _ _).after HB3.out.size)
  go_wp2
  refine bodyPost_ret (res_ct9 rfl _ _ (w.heap.size + 1) 27 _ (0, 0) _ rfl RZ.out Try.underlying27 rfl (by kernel_rfl)) rfl ?_
  exact ⟨_, rfl, HLZ.out, HZ.out⟩
theorem rget_any (d : Nat) : ∀ (l : List Stp) (x : Nd) (cs : List Value) (v : Value) (w : World), d ≤ w.heap.size → LieB d w cs x → WayV w.heap.size w v l → Few9 x →
    Calls Try.prog 21 #[.agg cs.toArray, v] w (PTreP d (GetX x l).1 (.bool (GetX x l).2) w) := by
  intro l
  induction l with
  | nil =>
    intro x cs v w hd hx hv _
    obtain ⟨A, c, rfl⟩ := hv.shape
    exact rget_nil x cs A c d w hd hx
  | cons s l ih =>
    intro x cs v w hd hx hv hf
    obtain ⟨A, c, rfl, hk⟩ := hx.shape
    obtain ⟨a, f⟩ := x
    obtain ⟨B, m, rfl⟩ := hv.shape
    obtain ⟨g, o, rfl, hN, hNm, hg, hs1, hs2⟩ := hv.at (j := 0) (s := s) rfl
    have hl : f.len ≤ 1000000 := Nat.le_trans (Fr.len_size f) hf
    cases hfi : findN s f with
    | none =>
      rw [GetX_none hfi]
      exact rget_none d a f A c s g o _ m w (hx.keep (fun _ _ => rfl) hd) hl ⟨by simpa using hs1, by simpa using hs2⟩ hg (by simp) hfi
    | some i =>
      obtain ⟨⟨a1, q⟩, hy, _, _⟩ := find_stp hfi
      rw [GetX_some (x := (a, f)) hfi hy]
      have hI : ∀ (cs : List Value) (v : Value) (W : World), d ≤ W.heap.size → LieB d W cs (a1, q) → WayV W.heap.size W v l → Calls Try.prog 21 #[.agg cs.toArray, v] W (PTreP d ((GetX (a1, q) l).1.1, (GetX (a1, q) l).1.2) (.bool (GetX (a1, q) l).2) W) :=
        fun cs v W h1 h2 h3 => ih (a1, q) cs v W h1 h2 h3 (by have h4 := Fr.size_get hy; have : f.size ≤ 1000000 := hf; show q.size ≤ 1000000; omega)
      by_cases hm : m = 1
      · exact rget_some_all d a f A c s l g o _ m i a1 q _ _ _ w hd hx hl hv hfi hy hm hI
      · exact rget_some_part d a f A c s l g o _ m i a1 q _ _ _ w hd hx hl hv hfi hy hm hI
end Go.Proofs.Ytgipnemcmiohlaa

