/- What ValidClasses stands on: TreGetR. -/
import Derived.Test.YtljjaikejfoanaaGreatXM0
import Derived.Test.YtljjaikejfoanaaGreatXM3
set_option linter.unusedSimpArgs false
set_option linter.unusedVariables false
namespace Go.Proofs.YtljjaikejfoanaaGreat
open Go.RowKit
set_option maxRecDepth 100000 in
set_option maxHeartbeats 2000000 in
theorem rget_nil (x : Nd) (cs : List Value) (B : Option Addr) (m b : Nat) (w : World) (hb : b ≤ w.heap.size) (hx : LieB b w cs x) :
  Calls Tryz.prog 17 #[.agg cs.toArray, .slice B 0 m] w (PTreP b x (.bool true) w) := by
 obtain ⟨A, c, rfl, hk⟩ := hx.shape
 obtain ⟨a, f⟩ := x
 have hb2 : Blk ((w.alloc (.cells #[.string (txt a.name), .string (txt a.key), .int .i64 a.kind, .int .u64 (a.num : Int), .string (txt a.text), .slice A f.len c] 27)).alloc (.cells #[.string (txt a.name), .string (txt a.key), .int .i64 a.kind, .int .u64 (a.num : Int), .string (txt a.text), .slice A f.len c] 27)) (w.heap.size + 1) 27 #[.string (txt a.name), .string (txt a.key), .int .i64 a.kind, .int .u64 (a.num : Int), .string (txt a.text), .slice A f.len c] := by
  have h := Blk.new (w.alloc (.cells #[.string (txt a.name), .string (txt a.key), .int .i64 a.kind, .int .u64 (a.num : Int), .string (txt a.text), .slice A f.len c] 27)) 27 #[.string (txt a.name), .string (txt a.key), .int .i64 a.kind, .int .u64 (a.num : Int), .string (txt a.text), .slice A f.len c]
  rw [show (w.alloc (.cells #[.string (txt a.name), .string (txt a.key), .int .i64 a.kind, .int .u64 (a.num : Int), .string (txt a.text), .slice A f.len c] 27)).heap.size = w.heap.size + 1 by simp] at h
  exact h
 have hB : Below w.heap.size w ((w.alloc (.cells #[.string (txt a.name), .string (txt a.key), .int .i64 a.kind, .int .u64 (a.num : Int), .string (txt a.text), .slice A f.len c] 27)).alloc (.cells #[.string (txt a.name), .string (txt a.key), .int .i64 a.kind, .int .u64 (a.num : Int), .string (txt a.text), .slice A f.len c] 27)) := ((Below.refl _ _).alloc (Nat.le_refl _) _).alloc (by simp) _
 have HX := Lib.hid ((hx.under hB hb (Nat.le_refl _)).p w.heap.size)
 have HB := Lib.hid hB
 have RE := Lib.hid hb2
 clear hx hk hb2 hB hb
 go_enter Tryz.func17, Tryz.ntmps17
 go_wp2
 refine bodyPost_ret (res_ct9 rfl _ _ (w.heap.size + 1) 27 _ (0, 0) _ rfl RE.out Tryz.underlying27 rfl (by kernel_rfl)) rfl ?_
 exact ⟨_, rfl, HX.out, HB.out⟩
def Stp0 (w : World) (g o : Nat) (s : Stp) : Prop := w.cell? ⟨g, o, none⟩ = some (.string (txt s.1)) ∧ w.cell? ⟨g, o + 1, none⟩ = some (.string (txt s.2))
theorem Stp0.below {w w' : World} {g o B : Nat} {s : Stp} (h : Stp0 w g o s) (hg : g < B) (hb : Below B w w') : Stp0 w' g o s := ⟨(hb.cell (p := ⟨g, o, none⟩) hg).trans h.1, (hb.cell (p := ⟨g, o + 1, none⟩) hg).trans h.2⟩
theorem get_boxes (a : NdD) (f : NdF) (A : Option Addr) (c : Nat) (w : World) (hx : LieN w (ndC a (.slice A f.len c)) (a, f)) :
  Blk ((w.alloc (.cells #[.string (txt a.name), .string (txt a.key), .int .i64 a.kind, .int .u64 (a.num : Int), .string (txt a.text), .slice A f.len c] 27)).alloc (.cells #[.string ⟨#[]⟩, .string ⟨#[]⟩, .int .i64 0, .int .u64 0, .string ⟨#[]⟩, .slice none 0 0] 27)) w.heap.size 27 #[.string (txt a.name), .string (txt a.key), .int .i64 a.kind, .int .u64 (a.num : Int), .string (txt a.text), .slice A f.len c] ∧ Blk ((w.alloc (.cells #[.string (txt a.name), .string (txt a.key), .int .i64 a.kind, .int .u64 (a.num : Int), .string (txt a.text), .slice A f.len c] 27)).alloc (.cells #[.string ⟨#[]⟩, .string ⟨#[]⟩, .int .i64 0, .int .u64 0, .string ⟨#[]⟩, .slice none 0 0] 27)) (w.heap.size + 1) 27 #[.string ⟨#[]⟩, .string ⟨#[]⟩, .int .i64 0, .int .u64 0, .string ⟨#[]⟩, .slice none 0 0] ∧ Below w.heap.size w ((w.alloc (.cells #[.string (txt a.name), .string (txt a.key), .int .i64 a.kind, .int .u64 (a.num : Int), .string (txt a.text), .slice A f.len c] 27)).alloc (.cells #[.string ⟨#[]⟩, .string ⟨#[]⟩, .int .i64 0, .int .u64 0, .string ⟨#[]⟩, .slice none 0 0] 27)) ∧ LieN ((w.alloc (.cells #[.string (txt a.name), .string (txt a.key), .int .i64 a.kind, .int .u64 (a.num : Int), .string (txt a.text), .slice A f.len c] 27)).alloc (.cells #[.string ⟨#[]⟩, .string ⟨#[]⟩, .int .i64 0, .int .u64 0, .string ⟨#[]⟩, .slice none 0 0] 27)).drew (ndC a (.slice A f.len c)) (a, f) := by
 have hb2 : Blk ((w.alloc (.cells #[.string (txt a.name), .string (txt a.key), .int .i64 a.kind, .int .u64 (a.num : Int), .string (txt a.text), .slice A f.len c] 27)).alloc (.cells #[.string ⟨#[]⟩, .string ⟨#[]⟩, .int .i64 0, .int .u64 0, .string ⟨#[]⟩, .slice none 0 0] 27)) (w.heap.size + 1) 27 #[.string ⟨#[]⟩, .string ⟨#[]⟩, .int .i64 0, .int .u64 0, .string ⟨#[]⟩, .slice none 0 0] := by
  have h := Blk.new (w.alloc (.cells #[.string (txt a.name), .string (txt a.key), .int .i64 a.kind, .int .u64 (a.num : Int), .string (txt a.text), .slice A f.len c] 27)) 27 #[.string ⟨#[]⟩, .string ⟨#[]⟩, .int .i64 0, .int .u64 0, .string ⟨#[]⟩, .slice none 0 0]
  rw [show (w.alloc (.cells #[.string (txt a.name), .string (txt a.key), .int .i64 a.kind, .int .u64 (a.num : Int), .string (txt a.text), .slice A f.len c] 27)).heap.size = w.heap.size + 1 by simp] at h
  exact h
 have hB : Below w.heap.size w ((w.alloc (.cells #[.string (txt a.name), .string (txt a.key), .int .i64 a.kind, .int .u64 (a.num : Int), .string (txt a.text), .slice A f.len c] 27)).alloc (.cells #[.string ⟨#[]⟩, .string ⟨#[]⟩, .int .i64 0, .int .u64 0, .string ⟨#[]⟩, .slice none 0 0] 27)) := ((Below.refl _ _).alloc (Nat.le_refl _) _).alloc (by simp) _
 exact ⟨(Blk.new _ _ _).alloc _, hb2, hB, LieB.below hx hB.drew⟩
set_option maxRecDepth 100000 in
set_option maxHeartbeats 4000000 in
theorem rget_none (b : Nat) (a : NdD) (f : NdF) (A : Option Addr) (c : Nat) (s : Stp) (g o N m : Nat) (w : World) (hx : LieN w (ndC a (.slice A f.len c)) (a, f)) (hl : f.len ≤ 1000000) (hs : Stp0 w g o s) (hg : g < w.heap.size) (hN : 0 < N) (hf : findN s f = none) :
  Calls Tryz.prog 17 #[.agg #[.string (txt a.name), .string (txt a.key), .int .i64 a.kind, .int .u64 (a.num : Int), .string (txt a.text), .slice A f.len c], .slice (some ⟨g, o, none⟩) N m] w (PTreP b noN (.bool false) w) := by
 obtain ⟨h1, h2, h3, h4⟩ := get_boxes a f A c w hx
 have e1 : ((N : Int) == 0) = false := by rw [beq_eq_false_iff_ne]; omega
 have e2 : (N == 0) = false := by rw [beq_eq_false_iff_ne]; omega
 have i1 : (0 : Int) < (N : Int) := by omega
 have HF : Hid (Calls Tryz.prog 29 #[.agg #[.string (txt a.name), .string (txt a.key), .int .i64 a.kind, .int .u64 (a.num : Int), .string (txt a.text), .slice A f.len c], .agg #[.string (txt s.1), .string (txt s.2)]] ((w.alloc (.cells #[.string (txt a.name), .string (txt a.key), .int .i64 a.kind, .int .u64 (a.num : Int), .string (txt a.text), .slice A f.len c] 27)).alloc (.cells #[.string ⟨#[]⟩, .string ⟨#[]⟩, .int .i64 0, .int .u64 0, .string ⟨#[]⟩, .slice none 0 0] 27)).drew (Ans9 (.int .i64 (-1)) ((w.alloc (.cells #[.string (txt a.name), .string (txt a.key), .int .i64 a.kind, .int .u64 (a.num : Int), .string (txt a.text), .slice A f.len c] 27)).alloc (.cells #[.string ⟨#[]⟩, .string ⟨#[]⟩, .int .i64 0, .int .u64 0, .string ⟨#[]⟩, .slice none 0 0] 27)).drew)) := Lib.hid (by
  have h := rfindn_any s (a, f) _ ((w.alloc (.cells #[.string (txt a.name), .string (txt a.key), .int .i64 a.kind, .int .u64 (a.num : Int), .string (txt a.text), .slice A f.len c] 27)).alloc (.cells #[.string ⟨#[]⟩, .string ⟨#[]⟩, .int .i64 0, .int .u64 0, .string ⟨#[]⟩, .slice none 0 0] 27)).drew h4 hl
  rw [show findIx s f = -1 by unfold findIx; rw [hf]] at h
  exact h)
 have HX := Lib.hid h1
 have RE := Lib.hid h2
 have HB := Lib.hid h3
 have HSt := Lib.hid (hs.below hg h3.drew)
 have HGL := Lib.hid hg
 clear h1 h2 h3 h4 hx hl hs hf hg
 go_enter Tryz.func17, Tryz.ntmps17
 go_wp2_with fail
 refine wp_region_noPanic ?_
 refine wp_region_held_drew (S := fun _ => True) (by kernel_rfl) trivial (fun hS => ?_)
 refine held_more (S' := fun w' => Blk w' w.heap.size 27 #[.string (txt a.name), .string (txt a.key), .int .i64 a.kind, .int .u64 (a.num : Int), .string (txt a.text), .slice A f.len c] ∧ Stp0 w' g o s) (fun _ _ => trivial) _ _ _ _ ?_
 replace hS := And.intro (HX.out.below (Below.refl _ _).drew HX.out.lt) HSt.out
 refine wpAnyH_take (i := 0) (oi := ?o_0) (v := ?v_0) ?i_0 (by kernel_rfl) (by kernel_rfl) (by kernel_rfl) (fun _ _ _ h => h) (Or.inl ⟨?g_0, ?y_0⟩) hS ?_
 case i_0 => simp only [layG]; rfl
 case g_0 => rfl
 case y_0 => (intro w hSw; have q0 := (hSw.1.cell 0).trans rfl; have q1 := (hSw.1.cell 1).trans rfl; have q2 := (hSw.1.cell 2).trans rfl; have q3 := (hSw.1.cell 3).trans rfl; have q4 := (hSw.1.cell 4).trans rfl; have q5 := (hSw.1.cell 5).trans rfl; (go_simp <;> with_reducible rfl))
 (try simp only [Act.put, layS])
 refine wpAnyH_take (i := 1) (oi := ?o_1) (v := ?v_1) ?i_1 (by kernel_rfl) (by kernel_rfl) (by kernel_rfl) (fun _ _ _ h => h) (Or.inl ⟨?g_1, ?y_1⟩) hS ?_
 case i_1 => simp only [layG]; rfl
 case g_1 => rfl
 case y_1 => (intro w hSw; (go_simp <;> with_reducible rfl))
 (try simp only [Act.put, layS])
 refine wpAnyH_take (i := 2) (oi := ?o_2) (v := ?v_2) ?i_2 (by kernel_rfl) (by kernel_rfl) (by kernel_rfl) (fun _ _ _ h => h) (Or.inl ⟨?g_2, ?y_2⟩) hS ?_
 case i_2 => simp only [layG]; rfl
 case g_2 => rfl
 case y_2 => (intro w hSw; (go_simp <;> with_reducible rfl))
 (try simp only [Act.put, layS])
 refine wpAnyH_take (i := 3) (oi := ?o_3) (v := ?v_3) ?i_3 (by kernel_rfl) (by kernel_rfl) (by kernel_rfl) (fun _ _ _ h => h) (Or.inl ⟨?g_3, ?y_3⟩) hS ?_
 case i_3 => simp only [layG]; rfl
 case g_3 => rfl
 case y_3 => (intro w hSw; have q0 := hSw.2.1; have q1 := hSw.2.2; (go_simp <;> with_reducible rfl))
 (try simp only [Act.put, layS])
 refine wpAnyH_ready (rs := [4]) (by kernel_rfl) (by simp) ?_
 refine (AllReadyH.cons (o := ?or_4) ?ir_4 (fun K hK => ?str_4) AllReadyH.nil)
 case ir_4 => simp only [layG]; rfl
 rw [if_pos (by rfl)]
 go_simp
 refine HF.out.mono ?_
 rintro r w3 ⟨rfl, hb3⟩
 have HB3 := Lib.hid (HB.out.drew.trans (hb3.mono HB.out.drew.size))
 have RE3 := Lib.hid ((RE.out.below (Below.refl _ _).drew RE.out.lt).below hb3 RE.out.lt)
 have HS3 := Lib.hid (And.intro ((HX.out.below (Below.refl _ _).drew HX.out.lt).below hb3 HX.out.lt) trivial)
 have HW3 := Lib.hid hb3
 clear hb3
 go_wp2_with fail
 refine hK.out _ _ ?sr_4 (fun hS => ?_)
 case sr_4 => (exact ⟨HS3.out.1, HSt.out.below (Nat.lt_of_lt_of_le HGL.out HB.out.drew.size) HW3.out⟩)
 clear hK K
 (try simp only [Act.put, layS])
 refine wpAnyH_take (i := 5) (oi := ?o_5) (v := ?v_5) ?i_5 (by kernel_rfl) (by kernel_rfl) (by kernel_rfl) (fun _ _ _ h => h) (Or.inl ⟨?g_5, ?y_5⟩) hS ?_
 case i_5 => simp only [layG]; rfl
 case g_5 => rfl
 case y_5 => (intro w hSw; (go_simp <;> with_reducible rfl))
 (try simp only [Act.put, layS])
 refine wpAnyH_done (by kernel_rfl) ?_ _
 refine NoPanic.normal ?_
 clear hS
 have fz0 : (w3).frozen? ⟨w.heap.size + 1, 0, none⟩ = false := RE3.out.frozen 0
 have fq0 := (RE3.out.cell 0).trans rfl
 have fz1 : (w3).frozen? ⟨w.heap.size + 1, 1, none⟩ = false := RE3.out.frozen 1
 have fq1 := (RE3.out.cell 1).trans rfl
 have fz2 : (w3).frozen? ⟨w.heap.size + 1, 2, none⟩ = false := RE3.out.frozen 2
 have fq2 := (RE3.out.cell 2).trans rfl
 have fz3 : (w3).frozen? ⟨w.heap.size + 1, 3, none⟩ = false := RE3.out.frozen 3
 have fq3 := (RE3.out.cell 3).trans rfl
 have fz4 : (w3).frozen? ⟨w.heap.size + 1, 4, none⟩ = false := RE3.out.frozen 4
 have fq4 := (RE3.out.cell 4).trans rfl
 have fz5 : (w3).frozen? ⟨w.heap.size + 1, 5, none⟩ = false := RE3.out.frozen 5
 have fq5 := (RE3.out.cell 5).trans rfl
 have RZ : Hid (Blk (set6 w3 (w.heap.size + 1) (.string ⟨#[]⟩) (.string ⟨#[]⟩) (.int .i64 0) (.int .u64 0) (.string ⟨#[]⟩) (.slice none 0 0)) (w.heap.size + 1) 27 #[.string ⟨#[]⟩, .string ⟨#[]⟩, .int .i64 0, .int .u64 0, .string ⟨#[]⟩, .slice none 0 0]) := Lib.hid (RE3.out.set6 _ _ _ _ _ _)
 have HZ : Hid (Below w.heap.size w (set6 w3 (w.heap.size + 1) (.string ⟨#[]⟩) (.string ⟨#[]⟩) (.int .i64 0) (.int .u64 0) (.string ⟨#[]⟩) (.slice none 0 0))) := Lib.hid (HB3.out.trans (set6_below (by omega)))
 go_wp2
 refine bodyPost_ret (res_ct9 rfl _ _ (w.heap.size + 1) 27 _ (0, 0) _ rfl RZ.out Tryz.underlying27 rfl (by kernel_rfl)) rfl ?_
 exact ⟨_, rfl, (LieB.zero _ _).p _, HZ.out⟩
theorem way_tail1 {b : Nat} {w : World} {g o N m : Nat} {s : Stp} {l : List Stp} (h : WayV b w (.slice (some ⟨g, o, none⟩) N m) (s :: l)) : WayV b w (.slice (some ⟨g, o + 2, none⟩) (N - 1) (m - 1)) l := by
 have h2 := h.tail
 obtain ⟨_, _, _, e, _⟩ := h.at (j := 0) (s := s) rfl
 rw [show N - 1 = l.length by rw [e]; simp]
 exact h2
set_option maxRecDepth 100000 in
set_option maxHeartbeats 4000000 in
theorem rget_some_all (d : Nat) (a : NdD) (f : NdF) (A : Option Addr) (c : Nat) (s : Stp) (l : List Stp) (g o N m i : Nat) (a1 : NdD) (q : NdF) (ya : NdD) (yf : NdF) (bb : Bool) (w : World) (hd : d ≤ w.heap.size) (hx : LieB d w (ndC a (.slice A f.len c)) (a, f)) (hl : f.len ≤ 1000000) (hv : WayV w.heap.size w (.slice (some ⟨g, o, none⟩) N m) (s :: l)) (hf : findN s f = some i) (hy : f.get? i = some (a1, q)) (hm : m = 1)
  (hI : ∀ (cs : List Value) (v : Value) (W : World), d ≤ W.heap.size → LieB d W cs (a1, q) → WayV W.heap.size W v l → Calls Tryz.prog 17 #[.agg cs.toArray, v] W (PTreP d (ya, yf) (.bool bb) W)) :
  Calls Tryz.prog 17 #[.agg #[.string (txt a.name), .string (txt a.key), .int .i64 a.kind, .int .u64 (a.num : Int), .string (txt a.text), .slice A f.len c], .slice (some ⟨g, o, none⟩) N m] w (PTreP d (ya, yf) (.bool bb) w) := by
 obtain ⟨h1, h2, h3, h4⟩ := get_boxes a f A c w (hx.keep (fun _ _ => rfl) hd)
 obtain ⟨g', o', eg, hNl, hNm, hg, hs1, hs2⟩ := hv.at (j := 0) (s := s) rfl
 injection eg with eg
 injection eg with eg1 eg2 eg3
 subst eg1 eg2
 have hs : Stp0 w g o s := ⟨by simpa using hs1, by simpa using hs2⟩
 have hN : 0 < N := by rw [hNl]; simp
 have e1 : ((N : Int) == 0) = false := by rw [beq_eq_false_iff_ne]; omega
 have e2 : (N == 0) = false := by rw [beq_eq_false_iff_ne]; omega
 have i1 : (0 : Int) < (N : Int) := by omega
 have i2 : (1 : Int) ≤ (N : Int) := by omega
 have i3 : (N : Int) ≤ (m : Int) := by omega
 have HF : Hid (Calls Tryz.prog 29 #[.agg #[.string (txt a.name), .string (txt a.key), .int .i64 a.kind, .int .u64 (a.num : Int), .string (txt a.text), .slice A f.len c], .agg #[.string (txt s.1), .string (txt s.2)]] ((w.alloc (.cells #[.string (txt a.name), .string (txt a.key), .int .i64 a.kind, .int .u64 (a.num : Int), .string (txt a.text), .slice A f.len c] 27)).alloc (.cells #[.string ⟨#[]⟩, .string ⟨#[]⟩, .int .i64 0, .int .u64 0, .string ⟨#[]⟩, .slice none 0 0] 27)).drew (Ans9 (.int .i64 (i : Int)) ((w.alloc (.cells #[.string (txt a.name), .string (txt a.key), .int .i64 a.kind, .int .u64 (a.num : Int), .string (txt a.text), .slice A f.len c] 27)).alloc (.cells #[.string ⟨#[]⟩, .string ⟨#[]⟩, .int .i64 0, .int .u64 0, .string ⟨#[]⟩, .slice none 0 0] 27)).drew)) := Lib.hid (by
  have h := rfindn_any s (a, f) _ ((w.alloc (.cells #[.string (txt a.name), .string (txt a.key), .int .i64 a.kind, .int .u64 (a.num : Int), .string (txt a.text), .slice A f.len c] 27)).alloc (.cells #[.string ⟨#[]⟩, .string ⟨#[]⟩, .int .i64 0, .int .u64 0, .string ⟨#[]⟩, .slice none 0 0] 27)).drew h4 hl
  rw [show findIx s f = (i : Int) by unfold findIx; rw [hf]] at h
  exact h)
 have hk := LieB.row hx
 have hi := Fr.get_lt hy
 obtain ⟨b, p, A1, c1, rfl, -, -, hbl, hrow, hcl⟩ := hk.at hy
 have j1 : (0 : Int) ≤ (i : Int) := by omega
 have j2 : (i : Int) < (f.len : Int) := by omega
 have HX := Lib.hid h1
 have RE := Lib.hid h2
 have HB := Lib.hid h3
 have HSt := Lib.hid (hs.below hg h3.drew)
 have HGL := Lib.hid (And.intro hg (Nat.lt_of_lt_of_le hbl hd))
 have HD := Lib.hid hd
 have HI := Lib.hid hI
 have HV := Lib.hid hv
 have HC := Lib.hid hcl
 have HR := Lib.hid hrow
 obtain rfl : N = 1 := by omega
 have HL1 : Hid (l = []) := Lib.hid (by have : l.length = 0 := (by simpa using hNl.symm); exact List.eq_nil_of_length_eq_zero this)
 subst hm
 clear h1 h2 h3 h4 hx hl hs hf hg hk hbl hrow hcl hI hv hs1 hs2 hNl hNm hy hi hd
 go_enter Tryz.func17, Tryz.ntmps17
 go_wp2_with fail
 refine wp_region_noPanic ?_
 refine wp_region_held_drew (S := fun _ => True) (by kernel_rfl) trivial (fun hS => ?_)
 refine held_more (S' := fun w' => Blk w' w.heap.size 27 #[.string (txt a.name), .string (txt a.key), .int .i64 a.kind, .int .u64 (a.num : Int), .string (txt a.text), .slice (some ⟨b, p, none⟩) f.len c] ∧ Stp0 w' g o s) (fun _ _ => trivial) _ _ _ _ ?_
 replace hS := And.intro (HX.out.below (Below.refl _ _).drew HX.out.lt) HSt.out
 refine wpAnyH_take (i := 0) (oi := ?o_6) (v := ?v_6) ?i_6 (by kernel_rfl) (by kernel_rfl) (by kernel_rfl) (fun _ _ _ h => h) (Or.inl ⟨?g_6, ?y_6⟩) hS ?_
 case i_6 => simp only [layG]; rfl
 case g_6 => rfl
 case y_6 => (intro w hSw; have q0 := (hSw.1.cell 0).trans rfl; have q1 := (hSw.1.cell 1).trans rfl; have q2 := (hSw.1.cell 2).trans rfl; have q3 := (hSw.1.cell 3).trans rfl; have q4 := (hSw.1.cell 4).trans rfl; have q5 := (hSw.1.cell 5).trans rfl; (go_simp <;> with_reducible rfl))
 (try simp only [Act.put, layS])
 refine wpAnyH_take (i := 1) (oi := ?o_7) (v := ?v_7) ?i_7 (by kernel_rfl) (by kernel_rfl) (by kernel_rfl) (fun _ _ _ h => h) (Or.inl ⟨?g_7, ?y_7⟩) hS ?_
 case i_7 => simp only [layG]; rfl
 case g_7 => rfl
 case y_7 => (intro w hSw; (go_simp <;> with_reducible rfl))
 (try simp only [Act.put, layS])
 refine wpAnyH_take (i := 2) (oi := ?o_8) (v := ?v_8) ?i_8 (by kernel_rfl) (by kernel_rfl) (by kernel_rfl) (fun _ _ _ h => h) (Or.inl ⟨?g_8, ?y_8⟩) hS ?_
 case i_8 => simp only [layG]; rfl
 case g_8 => rfl
 case y_8 => (intro w hSw; (go_simp <;> with_reducible rfl))
 (try simp only [Act.put, layS])
 refine wpAnyH_take (i := 3) (oi := ?o_9) (v := ?v_9) ?i_9 (by kernel_rfl) (by kernel_rfl) (by kernel_rfl) (fun _ _ _ h => h) (Or.inl ⟨?g_9, ?y_9⟩) hS ?_
 case i_9 => simp only [layG]; rfl
 case g_9 => rfl
 case y_9 => (intro w hSw; have q0 := hSw.2.1; have q1 := hSw.2.2; (go_simp <;> with_reducible rfl))
 (try simp only [Act.put, layS])
 refine wpAnyH_ready (rs := [4]) (by kernel_rfl) (by simp) ?_
 refine (AllReadyH.cons (o := ?or_a) ?ir_a (fun K hK => ?str_a) AllReadyH.nil)
 case ir_a => simp only [layG]; rfl
 rw [if_pos (by rfl)]
 go_simp
 refine HF.out.mono ?_
 rintro r w3 ⟨rfl, hb3⟩
 have HB3 := Lib.hid (HB.out.drew.trans (hb3.mono HB.out.drew.size))
 have RE3 := Lib.hid ((RE.out.below (Below.refl _ _).drew RE.out.lt).below hb3 RE.out.lt)
 have HX3 := Lib.hid ((HX.out.below (Below.refl _ _).drew HX.out.lt).below hb3 HX.out.lt)
 have HW3 := Lib.hid hb3
 clear hb3
 go_wp2_with fail
 refine hK.out _ _ ?sr_a (fun hS => ?_)
 case sr_a => (exact ⟨HX3.out, HSt.out.below (Nat.lt_of_lt_of_le HGL.out.1 HB.out.drew.size) HW3.out⟩)
 clear hK K
 (try simp only [Act.put, layS])
 refine wpAnyH_take (i := 5) (oi := ?o_b) (v := ?v_b) ?i_b (by kernel_rfl) (by kernel_rfl) (by kernel_rfl) (fun _ _ _ h => h) (Or.inl ⟨?g_b, ?y_b⟩) hS ?_
 case i_b => simp only [layG]; rfl
 case g_b => rfl
 case y_b => (intro w hSw; (go_simp <;> with_reducible rfl))
 (try simp only [Act.put, layS])
 refine wpAnyH_done (by kernel_rfl) ?_ _
 refine NoPanic.normal ?_
 clear hS
 go_wp2_with fail
 have HX4 := Lib.hid (HX3.out.below (Below.refl _ _).drew HX3.out.lt)
 have RE4 := Lib.hid (RE3.out.below (Below.refl _ _).drew RE3.out.lt)
 have HC4 : Hid (∀ j u, (ndC a1 (.slice A1 q.len c1))[j]? = some u → w3.drew.cell? ⟨b, p + i * 6 + j, none⟩ = some u) := Lib.hid (fun j u hu => (HB3.out.drew.cell (p := ⟨b, p + i * 6 + j, none⟩) HGL.out.2).trans (HC.out j u hu))
 have HI1 : Hid (Calls Tryz.prog 17 #[.agg #[.string (txt a1.name), .string (txt a1.key), .int .i64 a1.kind, .int .u64 (a1.num : Int), .string (txt a1.text), .slice A1 q.len c1], .slice (some ⟨g, o, none⟩) 0 0] w3.drew (PTreP d (ya, yf) (.bool bb) w3.drew)) := Lib.hid
  (HI.out _ _ w3.drew (Nat.le_trans HD.out HB3.out.drew.size) (LieB.make (HR.out.under HB3.out.drew HD.out (Nat.le_refl _))) (by rw [HL1.out]; exact WayV.nil _ _ _ _))
 refine wp_region_noPanic ?_
 refine wp_region_held_drew (S := fun _ => True) (by kernel_rfl) trivial (fun hS => ?_)
 refine held_more (S' := fun w' => Blk w' w.heap.size 27 #[.string (txt a.name), .string (txt a.key), .int .i64 a.kind, .int .u64 (a.num : Int), .string (txt a.text), .slice (some ⟨b, p, none⟩) f.len c] ∧ ∀ j u, (ndC a1 (.slice A1 q.len c1))[j]? = some u → w'.cell? ⟨b, p + i * 6 + j, none⟩ = some u) (fun _ _ => trivial) _ _ _ _ ?_
 replace hS := And.intro HX4.out HC4.out
 refine wpAnyH_take (i := 0) (oi := ?o_c) (v := ?v_c) ?i_c (by kernel_rfl) (by kernel_rfl) (by kernel_rfl) (fun _ _ _ h => h) (Or.inl ⟨?g_c, ?y_c⟩) hS ?_
 case i_c => simp only [layG]; rfl
 case g_c => rfl
 case y_c => (intro w hSw; (go_simp <;> with_reducible rfl))
 (try simp only [Act.put, layS])
 refine wpAnyH_take (i := 1) (oi := ?o_d) (v := ?v_d) ?i_d (by kernel_rfl) (by kernel_rfl) (by kernel_rfl) (fun _ _ _ h => h) (Or.inl ⟨?g_d, ?y_d⟩) hS ?_
 case i_d => simp only [layG]; rfl
 case g_d => rfl
 case y_d => (intro w hSw; have q5 := (hSw.1.cell 5).trans rfl; (go_simp <;> with_reducible rfl))
 (try simp only [Act.put, layS])
 refine wpAnyH_take (i := 2) (oi := ?o_e) (v := ?v_e) ?i_e (by kernel_rfl) (by kernel_rfl) (by kernel_rfl) (fun _ _ _ h => h) (Or.inl ⟨?g_e, ?y_e⟩) hS ?_
 case i_e => simp only [layG]; rfl
 case g_e => rfl
 case y_e => (intro w hSw; (go_simp <;> with_reducible rfl))
 (try simp only [Act.put, layS])
 refine wpAnyH_take (i := 3) (oi := ?o_f) (v := ?v_f) ?i_f (by kernel_rfl) (by kernel_rfl) (by kernel_rfl) (fun _ _ _ h => h) (Or.inl ⟨?g_f, ?y_f⟩) hS ?_
 case i_f => simp only [layG]; rfl
 case g_f => rfl
 case y_f => (intro w hSw; (go_simp <;> with_reducible rfl))
 (try simp only [Act.put, layS])
 refine wpAnyH_take (i := 4) (oi := ?o_g) (v := ?v_g) ?i_g (by kernel_rfl) (by kernel_rfl) (by kernel_rfl) (fun _ _ _ h => h) (Or.inl ⟨?g_g, ?y_g⟩) hS ?_
 case i_g => simp only [layG]; rfl
 case g_g => rfl
 case y_g => (intro w hSw; have u0 : w.cell? ⟨b, p + i * 6, none⟩ = _ := hSw.2 0 _ rfl; have u1 := hSw.2 1 _ rfl; have u2 := hSw.2 2 _ rfl; have u3 := hSw.2 3 _ rfl; have u4 := hSw.2 4 _ rfl; have u5 := hSw.2 5 _ rfl; (go_simp <;> with_reducible rfl))
 (try simp only [Act.put, layS])
 refine wpAnyH_take (i := 5) (oi := ?o_h) (v := ?v_h) ?i_h (by kernel_rfl) (by kernel_rfl) (by kernel_rfl) (fun _ _ _ h => h) (Or.inl ⟨?g_h, ?y_h⟩) hS ?_
 case i_h => simp only [layG]; rfl
 case g_h => rfl
 case y_h => (intro w hSw; (go_simp <;> with_reducible rfl))
 (try simp only [Act.put, layS])
 refine wpAnyH_take (i := 6) (oi := ?o_i) (v := ?v_i) ?i_i (by kernel_rfl) (by kernel_rfl) (by kernel_rfl) (fun _ _ _ h => h) (Or.inl ⟨?g_i, ?y_i⟩) hS ?_
 case i_i => simp only [layG]; rfl
 case g_i => rfl
 case y_i => (intro w hSw; (go_simp <;> with_reducible rfl))
 (try simp only [Act.put, layS])
 refine wpAnyH_ready (rs := [7]) (by kernel_rfl) (by simp) ?_
 refine (AllReadyH.cons (o := ?or_j) ?ir_j (fun K hK => ?str_j) AllReadyH.nil)
 case ir_j => simp only [layG]; rfl
 rw [if_pos (by rfl)]
 go_simp
 refine HI1.out.mono ?_
 intro r w6 hr
 obtain ⟨A6, c6, rfl, hl6, hb6⟩ := hr.flat
 have HL6 := Lib.hid hl6
 have HB6 := Lib.hid (HB3.out.drew.trans (hb6.mono HB3.out.drew.size))
 have HX6 := Lib.hid (HX4.out.below hb6 HX4.out.lt)
 have RE6 := Lib.hid (RE4.out.below hb6 RE4.out.lt)
 have HW6 := Lib.hid hb6
 clear hb6 hr hl6
 go_wp2_with fail
 refine hK.out _ _ ?sr_j (fun hS => ?_)
 case sr_j => (exact ⟨HX6.out, fun j u hu => (HW6.out.cell (p := ⟨b, p + i * 6 + j, none⟩) (Nat.lt_of_lt_of_le HGL.out.2 HB3.out.drew.size)).trans (HC4.out j u hu)⟩)
 clear hK K
 (try simp only [Act.put, layS])
 refine wpAnyH_take (i := 8) (oi := ?o_k) (v := ?v_k) ?i_k (by kernel_rfl) (by kernel_rfl) (by kernel_rfl) (fun _ _ _ h => h) (Or.inl ⟨?g_k, ?y_k⟩) hS ?_
 case i_k => simp only [layG]; rfl
 case g_k => rfl
 case y_k => (intro w hSw; (go_simp <;> with_reducible rfl))
 (try simp only [Act.put, layS])
 refine wpAnyH_take (i := 9) (oi := ?o_l) (v := ?v_l) ?i_l (by kernel_rfl) (by kernel_rfl) (by kernel_rfl) (fun _ _ _ h => h) (Or.inl ⟨?g_l, ?y_l⟩) hS ?_
 case i_l => simp only [layG]; rfl
 case g_l => rfl
 case y_l => (intro w hSw; (go_simp <;> with_reducible rfl))
 (try simp only [Act.put, layS])
 refine wpAnyH_ready (rs := [10]) (by kernel_rfl) (by simp) ?_
 refine (AllReadyH.cons (o := ?or_m) ?ir_m (fun K hK => ?str_m) AllReadyH.nil)
 case ir_m => simp only [layG]; rfl
 rw [if_pos (by rfl)]
 have fz0 : (w6).frozen? ⟨w.heap.size + 1, 0, none⟩ = false := RE6.out.frozen 0
 have fq0 := (RE6.out.cell 0).trans rfl
 have fz1 : (w6).frozen? ⟨w.heap.size + 1, 1, none⟩ = false := RE6.out.frozen 1
 have fq1 := (RE6.out.cell 1).trans rfl
 have fz2 : (w6).frozen? ⟨w.heap.size + 1, 2, none⟩ = false := RE6.out.frozen 2
 have fq2 := (RE6.out.cell 2).trans rfl
 have fz3 : (w6).frozen? ⟨w.heap.size + 1, 3, none⟩ = false := RE6.out.frozen 3
 have fq3 := (RE6.out.cell 3).trans rfl
 have fz4 : (w6).frozen? ⟨w.heap.size + 1, 4, none⟩ = false := RE6.out.frozen 4
 have fq4 := (RE6.out.cell 4).trans rfl
 have fz5 : (w6).frozen? ⟨w.heap.size + 1, 5, none⟩ = false := RE6.out.frozen 5
 have fq5 := (RE6.out.cell 5).trans rfl
 go_simp
 refine hK.out _ _ ?sr_m (fun hS => ?_)
 case sr_m => (exact ⟨(set6_other (w := w6) (b := w.heap.size + 1) (by omega)).trans HX6.out, fun j u hu => (World.cell?_of_block (set6_other (w := w6) (b := w.heap.size + 1) (by have := HGL.out.2; show b ≠ _; omega))).trans ((HW6.out.cell (p := ⟨b, p + i * 6 + j, none⟩) (Nat.lt_of_lt_of_le HGL.out.2 HB3.out.drew.size)).trans (HC4.out j u hu))⟩)
 clear hK K
 (try simp only [Act.put, layS])
 refine wpAnyH_take (i := 11) (oi := ?o_n) (v := ?v_n) ?i_n (by kernel_rfl) (by kernel_rfl) (by kernel_rfl) (fun _ _ _ h => h) (Or.inl ⟨?g_n, ?y_n⟩) hS ?_
 case i_n => simp only [layG]; rfl
 case g_n => rfl
 case y_n => (intro w hSw; (go_simp <;> with_reducible rfl))
 (try simp only [Act.put, layS])
 refine wpAnyH_done (by kernel_rfl) ?_ _
 refine NoPanic.normal ?_
 clear hS
 have RZ : Hid (Blk (set6 w6 (w.heap.size + 1) (.string (txt ya.name)) (.string (txt ya.key)) (.int .i64 ya.kind) (.int .u64 (ya.num : Int)) (.string (txt ya.text)) (.slice A6 yf.len c6)) (w.heap.size + 1) 27 #[.string (txt ya.name), .string (txt ya.key), .int .i64 ya.kind, .int .u64 (ya.num : Int), .string (txt ya.text), .slice A6 yf.len c6]) := Lib.hid (RE6.out.set6 _ _ _ _ _ _)
 have HZ : Hid (Below w.heap.size w (set6 w6 (w.heap.size + 1) (.string (txt ya.name)) (.string (txt ya.key)) (.int .i64 ya.kind) (.int .u64 (ya.num : Int)) (.string (txt ya.text)) (.slice A6 yf.len c6))) := Lib.hid (HB6.out.trans (set6_below (by omega)))
 have HLZ : Hid (LieP d w.heap.size (set6 w6 (w.heap.size + 1) (.string (txt ya.name)) (.string (txt ya.key)) (.int .i64 ya.kind) (.int .u64 (ya.num : Int)) (.string (txt ya.text)) (.slice A6 yf.len c6)) (ndC ya (.slice A6 yf.len c6)) (ya, yf)) := Lib.hid ((HL6.out.set6 (by have := HD.out; omega) (Nat.lt_of_lt_of_le (show w.heap.size + 1 < w3.heap.size from RE3.out.lt) (Nat.le_refl _)) _ _ _ _ _ _).after HB3.out.size)
 go_wp2
 refine bodyPost_ret (res_ct9 rfl _ _ (w.heap.size + 1) 27 _ (0, 0) _ rfl RZ.out Tryz.underlying27 rfl (by kernel_rfl)) rfl ?_
 exact ⟨_, rfl, HLZ.out, HZ.out⟩
set_option maxRecDepth 100000 in
set_option maxHeartbeats 4000000 in
theorem rget_some_part (d : Nat) (a : NdD) (f : NdF) (A : Option Addr) (c : Nat) (s : Stp) (l : List Stp) (g o N m i : Nat) (a1 : NdD) (q : NdF) (ya : NdD) (yf : NdF) (bb : Bool) (w : World) (hd : d ≤ w.heap.size) (hx : LieB d w (ndC a (.slice A f.len c)) (a, f)) (hl : f.len ≤ 1000000) (hv : WayV w.heap.size w (.slice (some ⟨g, o, none⟩) N m) (s :: l)) (hf : findN s f = some i) (hy : f.get? i = some (a1, q)) (hm : m ≠ 1)
  (hI : ∀ (cs : List Value) (v : Value) (W : World), d ≤ W.heap.size → LieB d W cs (a1, q) → WayV W.heap.size W v l → Calls Tryz.prog 17 #[.agg cs.toArray, v] W (PTreP d (ya, yf) (.bool bb) W)) :
  Calls Tryz.prog 17 #[.agg #[.string (txt a.name), .string (txt a.key), .int .i64 a.kind, .int .u64 (a.num : Int), .string (txt a.text), .slice A f.len c], .slice (some ⟨g, o, none⟩) N m] w (PTreP d (ya, yf) (.bool bb) w) := by
 obtain ⟨h1, h2, h3, h4⟩ := get_boxes a f A c w (hx.keep (fun _ _ => rfl) hd)
 obtain ⟨g', o', eg, hNl, hNm, hg, hs1, hs2⟩ := hv.at (j := 0) (s := s) rfl
 injection eg with eg
 injection eg with eg1 eg2 eg3
 subst eg1 eg2
 have hs : Stp0 w g o s := ⟨by simpa using hs1, by simpa using hs2⟩
 have hN : 0 < N := by rw [hNl]; simp
 have e1 : ((N : Int) == 0) = false := by rw [beq_eq_false_iff_ne]; omega
 have e2 : (N == 0) = false := by rw [beq_eq_false_iff_ne]; omega
 have i1 : (0 : Int) < (N : Int) := by omega
 have i2 : (1 : Int) ≤ (N : Int) := by omega
 have i3 : (N : Int) ≤ (m : Int) := by omega
 have HF : Hid (Calls Tryz.prog 29 #[.agg #[.string (txt a.name), .string (txt a.key), .int .i64 a.kind, .int .u64 (a.num : Int), .string (txt a.text), .slice A f.len c], .agg #[.string (txt s.1), .string (txt s.2)]] ((w.alloc (.cells #[.string (txt a.name), .string (txt a.key), .int .i64 a.kind, .int .u64 (a.num : Int), .string (txt a.text), .slice A f.len c] 27)).alloc (.cells #[.string ⟨#[]⟩, .string ⟨#[]⟩, .int .i64 0, .int .u64 0, .string ⟨#[]⟩, .slice none 0 0] 27)).drew (Ans9 (.int .i64 (i : Int)) ((w.alloc (.cells #[.string (txt a.name), .string (txt a.key), .int .i64 a.kind, .int .u64 (a.num : Int), .string (txt a.text), .slice A f.len c] 27)).alloc (.cells #[.string ⟨#[]⟩, .string ⟨#[]⟩, .int .i64 0, .int .u64 0, .string ⟨#[]⟩, .slice none 0 0] 27)).drew)) := Lib.hid (by
  have h := rfindn_any s (a, f) _ ((w.alloc (.cells #[.string (txt a.name), .string (txt a.key), .int .i64 a.kind, .int .u64 (a.num : Int), .string (txt a.text), .slice A f.len c] 27)).alloc (.cells #[.string ⟨#[]⟩, .string ⟨#[]⟩, .int .i64 0, .int .u64 0, .string ⟨#[]⟩, .slice none 0 0] 27)).drew h4 hl
  rw [show findIx s f = (i : Int) by unfold findIx; rw [hf]] at h
  exact h)
 have hk := LieB.row hx
 have hi := Fr.get_lt hy
 obtain ⟨b, p, A1, c1, rfl, -, -, hbl, hrow, hcl⟩ := hk.at hy
 have j1 : (0 : Int) ≤ (i : Int) := by omega
 have j2 : (i : Int) < (f.len : Int) := by omega
 have HX := Lib.hid h1
 have RE := Lib.hid h2
 have HB := Lib.hid h3
 have HSt := Lib.hid (hs.below hg h3.drew)
 have HGL := Lib.hid (And.intro hg (Nat.lt_of_lt_of_le hbl hd))
 have HD := Lib.hid hd
 have HI := Lib.hid hI
 have HV := Lib.hid hv
 have HC := Lib.hid hcl
 have HR := Lib.hid hrow
 skip
 clear h1 h2 h3 h4 hx hl hs hf hg hk hbl hrow hcl hI hv hs1 hs2 hNl hNm hy hi hd
 go_enter Tryz.func17, Tryz.ntmps17
 go_wp2_with fail
 refine wp_region_noPanic ?_
 refine wp_region_held_drew (S := fun _ => True) (by kernel_rfl) trivial (fun hS => ?_)
 refine held_more (S' := fun w' => Blk w' w.heap.size 27 #[.string (txt a.name), .string (txt a.key), .int .i64 a.kind, .int .u64 (a.num : Int), .string (txt a.text), .slice (some ⟨b, p, none⟩) f.len c] ∧ Stp0 w' g o s) (fun _ _ => trivial) _ _ _ _ ?_
 replace hS := And.intro (HX.out.below (Below.refl _ _).drew HX.out.lt) HSt.out
 refine wpAnyH_take (i := 0) (oi := ?o_o) (v := ?v_o) ?i_o (by kernel_rfl) (by kernel_rfl) (by kernel_rfl) (fun _ _ _ h => h) (Or.inl ⟨?g_o, ?y_o⟩) hS ?_
 case i_o => simp only [layG]; rfl
 case g_o => rfl
 case y_o => (intro w hSw; have q0 := (hSw.1.cell 0).trans rfl; have q1 := (hSw.1.cell 1).trans rfl; have q2 := (hSw.1.cell 2).trans rfl; have q3 := (hSw.1.cell 3).trans rfl; have q4 := (hSw.1.cell 4).trans rfl; have q5 := (hSw.1.cell 5).trans rfl; (go_simp <;> with_reducible rfl))
 (try simp only [Act.put, layS])
 refine wpAnyH_take (i := 1) (oi := ?o_p) (v := ?v_p) ?i_p (by kernel_rfl) (by kernel_rfl) (by kernel_rfl) (fun _ _ _ h => h) (Or.inl ⟨?g_p, ?y_p⟩) hS ?_
 case i_p => simp only [layG]; rfl
 case g_p => rfl
 case y_p => (intro w hSw; (go_simp <;> with_reducible rfl))
 (try simp only [Act.put, layS])
 refine wpAnyH_take (i := 2) (oi := ?o_q) (v := ?v_q) ?i_q (by kernel_rfl) (by kernel_rfl) (by kernel_rfl) (fun _ _ _ h => h) (Or.inl ⟨?g_q, ?y_q⟩) hS ?_
 case i_q => simp only [layG]; rfl
 case g_q => rfl
 case y_q => (intro w hSw; (go_simp <;> with_reducible rfl))
 (try simp only [Act.put, layS])
 refine wpAnyH_take (i := 3) (oi := ?o_r) (v := ?v_r) ?i_r (by kernel_rfl) (by kernel_rfl) (by kernel_rfl) (fun _ _ _ h => h) (Or.inl ⟨?g_r, ?y_r⟩) hS ?_
 case i_r => simp only [layG]; rfl
 case g_r => rfl
 case y_r => (intro w hSw; have q0 := hSw.2.1; have q1 := hSw.2.2; (go_simp <;> with_reducible rfl))
 (try simp only [Act.put, layS])
 refine wpAnyH_ready (rs := [4]) (by kernel_rfl) (by simp) ?_
 refine (AllReadyH.cons (o := ?or_s) ?ir_s (fun K hK => ?str_s) AllReadyH.nil)
 case ir_s => simp only [layG]; rfl
 rw [if_pos (by rfl)]
 go_simp
 refine HF.out.mono ?_
 rintro r w3 ⟨rfl, hb3⟩
 have HB3 := Lib.hid (HB.out.drew.trans (hb3.mono HB.out.drew.size))
 have RE3 := Lib.hid ((RE.out.below (Below.refl _ _).drew RE.out.lt).below hb3 RE.out.lt)
 have HX3 := Lib.hid ((HX.out.below (Below.refl _ _).drew HX.out.lt).below hb3 HX.out.lt)
 have HW3 := Lib.hid hb3
 clear hb3
 go_wp2_with fail
 refine hK.out _ _ ?sr_s (fun hS => ?_)
 case sr_s => (exact ⟨HX3.out, HSt.out.below (Nat.lt_of_lt_of_le HGL.out.1 HB.out.drew.size) HW3.out⟩)
 clear hK K
 (try simp only [Act.put, layS])
 refine wpAnyH_take (i := 5) (oi := ?o_t) (v := ?v_t) ?i_t (by kernel_rfl) (by kernel_rfl) (by kernel_rfl) (fun _ _ _ h => h) (Or.inl ⟨?g_t, ?y_t⟩) hS ?_
 case i_t => simp only [layG]; rfl
 case g_t => rfl
 case y_t => (intro w hSw; (go_simp <;> with_reducible rfl))
 (try simp only [Act.put, layS])
 refine wpAnyH_done (by kernel_rfl) ?_ _
 refine NoPanic.normal ?_
 clear hS
 go_wp2_with fail
 have HX4 := Lib.hid (HX3.out.below (Below.refl _ _).drew HX3.out.lt)
 have RE4 := Lib.hid (RE3.out.below (Below.refl _ _).drew RE3.out.lt)
 have HC4 : Hid (∀ j u, (ndC a1 (.slice A1 q.len c1))[j]? = some u → w3.drew.cell? ⟨b, p + i * 6 + j, none⟩ = some u) := Lib.hid (fun j u hu => (HB3.out.drew.cell (p := ⟨b, p + i * 6 + j, none⟩) HGL.out.2).trans (HC.out j u hu))
 have HI1 : Hid (Calls Tryz.prog 17 #[.agg #[.string (txt a1.name), .string (txt a1.key), .int .i64 a1.kind, .int .u64 (a1.num : Int), .string (txt a1.text), .slice A1 q.len c1], .slice (some ⟨g, o + 2, none⟩) (N - 1) (m - 1)] w3.drew (PTreP d (ya, yf) (.bool bb) w3.drew)) := Lib.hid
  (HI.out _ _ w3.drew (Nat.le_trans HD.out HB3.out.drew.size) (LieB.make (HR.out.under HB3.out.drew HD.out (Nat.le_refl _))) (way_tail1 (HV.out.under HB3.out.drew (Nat.le_refl _) HB3.out.drew.size)))
 refine wp_region_noPanic ?_
 refine wp_region_held_drew (S := fun _ => True) (by kernel_rfl) trivial (fun hS => ?_)
 refine held_more (S' := fun w' => Blk w' w.heap.size 27 #[.string (txt a.name), .string (txt a.key), .int .i64 a.kind, .int .u64 (a.num : Int), .string (txt a.text), .slice (some ⟨b, p, none⟩) f.len c] ∧ ∀ j u, (ndC a1 (.slice A1 q.len c1))[j]? = some u → w'.cell? ⟨b, p + i * 6 + j, none⟩ = some u) (fun _ _ => trivial) _ _ _ _ ?_
 replace hS := And.intro HX4.out HC4.out
 refine wpAnyH_take (i := 0) (oi := ?o_u) (v := ?v_u) ?i_u (by kernel_rfl) (by kernel_rfl) (by kernel_rfl) (fun _ _ _ h => h) (Or.inl ⟨?g_u, ?y_u⟩) hS ?_
 case i_u => simp only [layG]; rfl
 case g_u => rfl
 case y_u => (intro w hSw; (go_simp <;> with_reducible rfl))
 (try simp only [Act.put, layS])
 refine wpAnyH_take (i := 1) (oi := ?o_v) (v := ?v_v) ?i_v (by kernel_rfl) (by kernel_rfl) (by kernel_rfl) (fun _ _ _ h => h) (Or.inl ⟨?g_v, ?y_v⟩) hS ?_
 case i_v => simp only [layG]; rfl
 case g_v => rfl
 case y_v => (intro w hSw; have q5 := (hSw.1.cell 5).trans rfl; (go_simp <;> with_reducible rfl))
 (try simp only [Act.put, layS])
 refine wpAnyH_take (i := 2) (oi := ?o_w) (v := ?v_w) ?i_w (by kernel_rfl) (by kernel_rfl) (by kernel_rfl) (fun _ _ _ h => h) (Or.inl ⟨?g_w, ?y_w⟩) hS ?_
 case i_w => simp only [layG]; rfl
 case g_w => rfl
 case y_w => (intro w hSw; (go_simp <;> with_reducible rfl))
 (try simp only [Act.put, layS])
 refine wpAnyH_take (i := 3) (oi := ?o_x) (v := ?v_x) ?i_x (by kernel_rfl) (by kernel_rfl) (by kernel_rfl) (fun _ _ _ h => h) (Or.inl ⟨?g_x, ?y_x⟩) hS ?_
 case i_x => simp only [layG]; rfl
 case g_x => rfl
 case y_x => (intro w hSw; (go_simp <;> with_reducible rfl))
 (try simp only [Act.put, layS])
 refine wpAnyH_take (i := 4) (oi := ?o_y) (v := ?v_y) ?i_y (by kernel_rfl) (by kernel_rfl) (by kernel_rfl) (fun _ _ _ h => h) (Or.inl ⟨?g_y, ?y_y⟩) hS ?_
 case i_y => simp only [layG]; rfl
 case g_y => rfl
 case y_y => (intro w hSw; have u0 : w.cell? ⟨b, p + i * 6, none⟩ = _ := hSw.2 0 _ rfl; have u1 := hSw.2 1 _ rfl; have u2 := hSw.2 2 _ rfl; have u3 := hSw.2 3 _ rfl; have u4 := hSw.2 4 _ rfl; have u5 := hSw.2 5 _ rfl; (go_simp <;> with_reducible rfl))
 (try simp only [Act.put, layS])
 refine wpAnyH_take (i := 5) (oi := ?o_z) (v := ?v_z) ?i_z (by kernel_rfl) (by kernel_rfl) (by kernel_rfl) (fun _ _ _ h => h) (Or.inl ⟨?g_z, ?y_z⟩) hS ?_
 case i_z => simp only [layG]; rfl
 case g_z => rfl
 case y_z => (intro w hSw; (go_simp <;> with_reducible rfl))
 (try simp only [Act.put, layS])
 refine wpAnyH_take (i := 6) (oi := ?o_10) (v := ?v_10) ?i_10 (by kernel_rfl) (by kernel_rfl) (by kernel_rfl) (fun _ _ _ h => h) (Or.inl ⟨?g_10, ?y_10⟩) hS ?_
 case i_10 => simp only [layG]; rfl
 case g_10 => rfl
 case y_10 => (intro w hSw; (go_simp <;> with_reducible rfl))
 (try simp only [Act.put, layS])
 refine wpAnyH_ready (rs := [7]) (by kernel_rfl) (by simp) ?_
 refine (AllReadyH.cons (o := ?or_11) ?ir_11 (fun K hK => ?str_11) AllReadyH.nil)
 case ir_11 => simp only [layG]; rfl
 rw [if_pos (by rfl)]
 go_simp
 refine HI1.out.mono ?_
 intro r w6 hr
 obtain ⟨A6, c6, rfl, hl6, hb6⟩ := hr.flat
 have HL6 := Lib.hid hl6
 have HB6 := Lib.hid (HB3.out.drew.trans (hb6.mono HB3.out.drew.size))
 have HX6 := Lib.hid (HX4.out.below hb6 HX4.out.lt)
 have RE6 := Lib.hid (RE4.out.below hb6 RE4.out.lt)
 have HW6 := Lib.hid hb6
 clear hb6 hr hl6
 go_wp2_with fail
 refine hK.out _ _ ?sr_11 (fun hS => ?_)
 case sr_11 => (exact ⟨HX6.out, fun j u hu => (HW6.out.cell (p := ⟨b, p + i * 6 + j, none⟩) (Nat.lt_of_lt_of_le HGL.out.2 HB3.out.drew.size)).trans (HC4.out j u hu)⟩)
 clear hK K
 (try simp only [Act.put, layS])
 refine wpAnyH_take (i := 8) (oi := ?o_12) (v := ?v_12) ?i_12 (by kernel_rfl) (by kernel_rfl) (by kernel_rfl) (fun _ _ _ h => h) (Or.inl ⟨?g_12, ?y_12⟩) hS ?_
 case i_12 => simp only [layG]; rfl
 case g_12 => rfl
 case y_12 => (intro w hSw; (go_simp <;> with_reducible rfl))
 (try simp only [Act.put, layS])
 refine wpAnyH_take (i := 9) (oi := ?o_13) (v := ?v_13) ?i_13 (by kernel_rfl) (by kernel_rfl) (by kernel_rfl) (fun _ _ _ h => h) (Or.inl ⟨?g_13, ?y_13⟩) hS ?_
 case i_13 => simp only [layG]; rfl
 case g_13 => rfl
 case y_13 => (intro w hSw; (go_simp <;> with_reducible rfl))
 (try simp only [Act.put, layS])
 refine wpAnyH_ready (rs := [10]) (by kernel_rfl) (by simp) ?_
 refine (AllReadyH.cons (o := ?or_14) ?ir_14 (fun K hK => ?str_14) AllReadyH.nil)
 case ir_14 => simp only [layG]; rfl
 rw [if_pos (by rfl)]
 have fz0 : (w6).frozen? ⟨w.heap.size + 1, 0, none⟩ = false := RE6.out.frozen 0
 have fq0 := (RE6.out.cell 0).trans rfl
 have fz1 : (w6).frozen? ⟨w.heap.size + 1, 1, none⟩ = false := RE6.out.frozen 1
 have fq1 := (RE6.out.cell 1).trans rfl
 have fz2 : (w6).frozen? ⟨w.heap.size + 1, 2, none⟩ = false := RE6.out.frozen 2
 have fq2 := (RE6.out.cell 2).trans rfl
 have fz3 : (w6).frozen? ⟨w.heap.size + 1, 3, none⟩ = false := RE6.out.frozen 3
 have fq3 := (RE6.out.cell 3).trans rfl
 have fz4 : (w6).frozen? ⟨w.heap.size + 1, 4, none⟩ = false := RE6.out.frozen 4
 have fq4 := (RE6.out.cell 4).trans rfl
 have fz5 : (w6).frozen? ⟨w.heap.size + 1, 5, none⟩ = false := RE6.out.frozen 5
 have fq5 := (RE6.out.cell 5).trans rfl
 go_simp
 refine hK.out _ _ ?sr_14 (fun hS => ?_)
 case sr_14 => (exact ⟨(set6_other (w := w6) (b := w.heap.size + 1) (by omega)).trans HX6.out, fun j u hu => (World.cell?_of_block (set6_other (w := w6) (b := w.heap.size + 1) (by have := HGL.out.2; show b ≠ _; omega))).trans ((HW6.out.cell (p := ⟨b, p + i * 6 + j, none⟩) (Nat.lt_of_lt_of_le HGL.out.2 HB3.out.drew.size)).trans (HC4.out j u hu))⟩)
 clear hK K
 (try simp only [Act.put, layS])
 refine wpAnyH_take (i := 11) (oi := ?o_15) (v := ?v_15) ?i_15 (by kernel_rfl) (by kernel_rfl) (by kernel_rfl) (fun _ _ _ h => h) (Or.inl ⟨?g_15, ?y_15⟩) hS ?_
 case i_15 => simp only [layG]; rfl
 case g_15 => rfl
 case y_15 => (intro w hSw; (go_simp <;> with_reducible rfl))
 (try simp only [Act.put, layS])
 refine wpAnyH_done (by kernel_rfl) ?_ _
 refine NoPanic.normal ?_
 clear hS
 have RZ : Hid (Blk (set6 w6 (w.heap.size + 1) (.string (txt ya.name)) (.string (txt ya.key)) (.int .i64 ya.kind) (.int .u64 (ya.num : Int)) (.string (txt ya.text)) (.slice A6 yf.len c6)) (w.heap.size + 1) 27 #[.string (txt ya.name), .string (txt ya.key), .int .i64 ya.kind, .int .u64 (ya.num : Int), .string (txt ya.text), .slice A6 yf.len c6]) := Lib.hid (RE6.out.set6 _ _ _ _ _ _)
 have HZ : Hid (Below w.heap.size w (set6 w6 (w.heap.size + 1) (.string (txt ya.name)) (.string (txt ya.key)) (.int .i64 ya.kind) (.int .u64 (ya.num : Int)) (.string (txt ya.text)) (.slice A6 yf.len c6))) := Lib.hid (HB6.out.trans (set6_below (by omega)))
 have HLZ : Hid (LieP d w.heap.size (set6 w6 (w.heap.size + 1) (.string (txt ya.name)) (.string (txt ya.key)) (.int .i64 ya.kind) (.int .u64 (ya.num : Int)) (.string (txt ya.text)) (.slice A6 yf.len c6)) (ndC ya (.slice A6 yf.len c6)) (ya, yf)) := Lib.hid ((HL6.out.set6 (by have := HD.out; omega) (Nat.lt_of_lt_of_le (show w.heap.size + 1 < w3.heap.size from RE3.out.lt) (Nat.le_refl _)) _ _ _ _ _ _).after HB3.out.size)
 go_wp2
 refine bodyPost_ret (res_ct9 rfl _ _ (w.heap.size + 1) 27 _ (0, 0) _ rfl RZ.out Tryz.underlying27 rfl (by kernel_rfl)) rfl ?_
 exact ⟨_, rfl, HLZ.out, HZ.out⟩
theorem rget_any (d : Nat) : ∀ (l : List Stp) (x : Nd) (cs : List Value) (v : Value) (w : World), d ≤ w.heap.size → LieB d w cs x → WayV w.heap.size w v l → Few9 x →
  Calls Tryz.prog 17 #[.agg cs.toArray, v] w (PTreP d (GetX x l).1 (.bool (GetX x l).2) w) := by
 intro l
 induction l with
 | nil =>
  intro x cs v w hd hx hv _
  obtain ⟨A, c, rfl⟩ := hv.shape
  exact rget_nil x cs A c d w hd hx
 | cons s l ih =>
  intro x cs v w hd hx hv hf
  obtain ⟨A, c, rfl, hk⟩ := hx.shape
  obtain ⟨a, f⟩ := x
  obtain ⟨B, m, rfl⟩ := hv.shape
  obtain ⟨g, o, rfl, hN, hNm, hg, hs1, hs2⟩ := hv.at (j := 0) (s := s) rfl
  have hl : f.len ≤ 1000000 := Nat.le_trans (Fr.len_size f) hf
  cases hfi : findN s f with
  | none =>
   rw [GetX_none hfi]
   exact rget_none d a f A c s g o _ m w (hx.keep (fun _ _ => rfl) hd) hl ⟨by simpa using hs1, by simpa using hs2⟩ hg (by simp) hfi
  | some i =>
   obtain ⟨⟨a1, q⟩, hy, _, _⟩ := find_stp hfi
   rw [GetX_some (x := (a, f)) hfi hy]
   have hI : ∀ (cs : List Value) (v : Value) (W : World), d ≤ W.heap.size → LieB d W cs (a1, q) → WayV W.heap.size W v l → Calls Tryz.prog 17 #[.agg cs.toArray, v] W (PTreP d ((GetX (a1, q) l).1.1, (GetX (a1, q) l).1.2) (.bool (GetX (a1, q) l).2) W) :=
    fun cs v W h1 h2 h3 => ih (a1, q) cs v W h1 h2 h3 (by have h4 := Fr.size_get hy; have : f.size ≤ 1000000 := hf; show q.size ≤ 1000000; omega)
   by_cases hm : m = 1
   ·exact rget_some_all d a f A c s l g o _ m i a1 q _ _ _ w hd hx hl hv hfi hy hm hI
   ·exact rget_some_part d a f A c s l g o _ m i a1 q _ _ _ w hd hx hl hv hfi hy hm hI
end Go.Proofs.YtljjaikejfoanaaGreat
