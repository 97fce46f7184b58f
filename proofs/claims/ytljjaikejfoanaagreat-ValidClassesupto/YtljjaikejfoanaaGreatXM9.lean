/- What ValidClasses stands on: TreSetR, TreCutR. -/
import Derived.Test.YtljjaikejfoanaaGreatXM0
import Derived.Test.YtljjaikejfoanaaGreatXM3
import Derived.Test.YtljjaikejfoanaaGreatXM8
set_option linter.unusedSimpArgs false
set_option linter.unusedVariables false
namespace Go.Proofs.YtljjaikejfoanaaGreat
open Go.RowKit
theorem row_one {D : RdOf NdD} {W : World} {S : Nat → Prop} {a : NdD} {f : NdF} {v : Value} (hD : FrN D 6 5 W S noB (ndC a v) a f) {g : Nat} {t : TypeId} (hS : S g) (hb : Blk W g t (ndC a v).toArray) : FrV D 6 5 W S noB (.slice (some ⟨g, 0, none⟩) 1 1) (oneF (a, f)) :=
 FrV.lit hS hb (rowG.one hD) (Nat.le_refl _)
end Go.Proofs.YtljjaikejfoanaaGreat
namespace Go.Proofs.YtljjaikejfoanaaGreat
open Go.RowKit
set_option maxRecDepth 100000 in
set_option maxHeartbeats 4000000 in
theorem rcut_one (d : Nat) (a : NdD) (f : NdF) (A : Option Addr) (c : Nat) (s : Stp) (g o N m i : Nat) (Rf : NdF) (w : World) (hd : d ≤ w.heap.size) (hx : LieB d w (ndC a (.slice A f.len c)) (a, f)) (hl : f.len ≤ 1000000)
  (hv : WayV w.heap.size w (.slice (some ⟨g, o, none⟩) N m) [s]) (hf : findN s f = some i) (hi : i < f.len) (hR : withF f i 1 .nil = Rf) :
  Calls Tryz.prog 28 #[.agg #[.string (txt a.name), .string (txt a.key), .int .i64 a.kind, .int .u64 (a.num : Int), .string (txt a.text), .slice A f.len c], .slice (some ⟨g, o, none⟩) N m] w (PTreP1 d (a, Rf) w) := by
 obtain ⟨h1, h2, h3, h4⟩ := get_boxes a f A c w (hx.keep (fun _ _ => rfl) hd)
 obtain ⟨g', o', eg', hNl, hNm, hg, hs1, hs2⟩ := hv.at (j := 0) (s := s) rfl
 injection eg' with eg'
 injection eg' with eg1 eg2 eg3
 subst eg1 eg2
 have hs : Stp0 w g o s := ⟨by simpa using hs1, by simpa using hs2⟩
 have hN : 0 < N := by rw [hNl]; simp
 have i1 : (0 : Int) < (N : Int) := by omega
 have i2 : (1 : Int) ≤ (N : Int) := by omega
 have i3 : (N : Int) ≤ (m : Int) := by omega
 have HF : Hid (Calls Tryz.prog 29 #[.agg #[.string (txt a.name), .string (txt a.key), .int .i64 a.kind, .int .u64 (a.num : Int), .string (txt a.text), .slice A f.len c], .agg #[.string (txt s.1), .string (txt s.2)]] ((w.alloc (.cells #[.string (txt a.name), .string (txt a.key), .int .i64 a.kind, .int .u64 (a.num : Int), .string (txt a.text), .slice A f.len c] 27)).alloc (.cells #[.string ⟨#[]⟩, .string ⟨#[]⟩, .int .i64 0, .int .u64 0, .string ⟨#[]⟩, .slice none 0 0] 27)).drew (Ans9 (.int .i64 (i : Int)) ((w.alloc (.cells #[.string (txt a.name), .string (txt a.key), .int .i64 a.kind, .int .u64 (a.num : Int), .string (txt a.text), .slice A f.len c] 27)).alloc (.cells #[.string ⟨#[]⟩, .string ⟨#[]⟩, .int .i64 0, .int .u64 0, .string ⟨#[]⟩, .slice none 0 0] 27)).drew)) := Lib.hid (by
  have h := rfindn_any s (a, f) _ ((w.alloc (.cells #[.string (txt a.name), .string (txt a.key), .int .i64 a.kind, .int .u64 (a.num : Int), .string (txt a.text), .slice A f.len c] 27)).alloc (.cells #[.string ⟨#[]⟩, .string ⟨#[]⟩, .int .i64 0, .int .u64 0, .string ⟨#[]⟩, .slice none 0 0] 27)).drew h4 hl
  rw [show findIx s f = (i : Int) by unfold findIx; rw [hf]] at h
  exact h)
 have hk := LieB.row hx
 have j1 : (0 : Int) ≤ (i : Int) := by omega
 have HX := Lib.hid h1
 have HZ := Lib.hid h2
 have HB := Lib.hid h3
 have HSt := Lib.hid (hs.below hg h3.drew)
 have HGL := Lib.hid hg
 have HD := Lib.hid hd
 have hN2 : N = 1 := hNl
 have HRF := Lib.hid hR
 have HK := Lib.hid hk
 have HLN := Lib.hid (And.intro hl (show i + 1 ≤ f.len by omega))
 clear h1 h2 h3 h4 hx hl hs hf hg hk hv hs1 hs2 hNl hNm hi hd hR
 subst hN2
 go_enter Tryz.func28, Tryz.ntmps28
 go_wp2_with fail
 refine wp_region_noPanic ?_
 refine wp_region_held_drew (S := fun _ => True) (by kernel_rfl) trivial (fun hS => ?_)
 refine held_more (S' := fun w' => Blk w' w.heap.size 27 #[.string (txt a.name), .string (txt a.key), .int .i64 a.kind, .int .u64 (a.num : Int), .string (txt a.text), .slice A f.len c] ∧ Stp0 w' g o s) (fun _ _ => trivial) _ _ _ _ ?_
 replace hS := And.intro (HX.out.below (Below.refl _ _).drew HX.out.lt) HSt.out
 refine wpAnyH_take (i := 0) (oi := ?o_0) (v := ?v_0) ?i_0 (by kernel_rfl) (by kernel_rfl) (by kernel_rfl) (fun _ _ _ h => h) (Or.inl ⟨?g_0, ?y_0⟩) hS ?_
 case i_0 => simp only [layG]; rfl
 case g_0 => rfl
 case y_0 => (intro w hSw; have q0 := (hSw.1.cell 0).trans rfl; have q1 := (hSw.1.cell 1).trans rfl; have q2 := (hSw.1.cell 2).trans rfl; have q3 := (hSw.1.cell 3).trans rfl; have q4 := (hSw.1.cell 4).trans rfl; have q5 := (hSw.1.cell 5).trans rfl; (go_simp <;> with_reducible rfl))
 (try simp only [Act.put, layS])
 refine wpAnyH_take (i := 1) (oi := ?o_1) (v := ?v_1) ?i_1 (by kernel_rfl) (by kernel_rfl) (by kernel_rfl) (fun _ _ _ h => h) (Or.inl ⟨?g_1, ?y_1⟩) hS ?_
 case i_1 => simp only [layG]; rfl
 case g_1 => rfl
 case y_1 => (intro w hSw; (go_simp <;> with_reducible rfl))
 (try simp only [Act.put, layS])
 refine wpAnyH_take (i := 2) (oi := ?o_2) (v := ?v_2) ?i_2 (by kernel_rfl) (by kernel_rfl) (by kernel_rfl) (fun _ _ _ h => h) (Or.inl ⟨?g_2, ?y_2⟩) hS ?_
 case i_2 => simp only [layG]; rfl
 case g_2 => rfl
 case y_2 => (intro w hSw; (go_simp <;> with_reducible rfl))
 (try simp only [Act.put, layS])
 refine wpAnyH_take (i := 3) (oi := ?o_3) (v := ?v_3) ?i_3 (by kernel_rfl) (by kernel_rfl) (by kernel_rfl) (fun _ _ _ h => h) (Or.inl ⟨?g_3, ?y_3⟩) hS ?_
 case i_3 => simp only [layG]; rfl
 case g_3 => rfl
 case y_3 => (intro w hSw; have q0 := hSw.2.1; have q1 := hSw.2.2; (go_simp <;> with_reducible rfl))
 (try simp only [Act.put, layS])
 refine wpAnyH_ready (rs := [4]) (by kernel_rfl) (by simp) ?_
 refine (AllReadyH.cons (o := ?or_4) ?ir_4 (fun K hK => ?str_4) AllReadyH.nil)
 case ir_4 => simp only [layG]; rfl
 rw [if_pos (by rfl)]
 go_simp
 refine HF.out.mono ?_
 rintro r w3 ⟨rfl, hb3⟩
 have HB3 := Lib.hid (HB.out.drew.trans (hb3.mono HB.out.drew.size))
 have HZ3 := Lib.hid ((HZ.out.below (Below.refl _ _).drew HZ.out.lt).below hb3 HZ.out.lt)
 have HX3 := Lib.hid ((HX.out.below (Below.refl _ _).drew HX.out.lt).below hb3 HX.out.lt)
 have HW3 := Lib.hid hb3
 clear hb3
 go_wp2_with fail
 refine hK.out _ _ ?sr_4 (fun hS => ?_)
 case sr_4 => (exact ⟨HX3.out, HSt.out.below (Nat.lt_of_lt_of_le HGL.out HB.out.drew.size) HW3.out⟩)
 clear hK K
 (try simp only [Act.put, layS])
 refine wpAnyH_take (i := 5) (oi := ?o_5) (v := ?v_5) ?i_5 (by kernel_rfl) (by kernel_rfl) (by kernel_rfl) (fun _ _ _ h => h) (Or.inl ⟨?g_5, ?y_5⟩) hS ?_
 case i_5 => simp only [layG]; rfl
 case g_5 => rfl
 case y_5 => (intro w hSw; (go_simp <;> with_reducible rfl))
 (try simp only [Act.put, layS])
 refine wpAnyH_done (by kernel_rfl) ?_ _
 refine NoPanic.normal ?_
 clear hS
 have HWC : Hid (Calls Tryz.prog 41 #[.agg #[.string (txt a.name), .string (txt a.key), .int .i64 a.kind, .int .u64 (a.num : Int), .string (txt a.text), .slice A f.len c], .int .i64 (i : Int), .int .i64 1, .slice none 0 0] w3 (WithP d (w.heap.size + 2) a Rf w3)) := Lib.hid (by
  have hz3 : w.heap.size + 1 < w3.heap.size := HZ3.out.lt
  have hdd := HD.out
  rw [← HRF.out]
  exact rwith_any d (w.heap.size + 2) a f .nil A f.len c i 1 none 0 0 w3 (by omega) (by omega)
   (FrV.mono stay_nd (HK.out.under HB3.out HD.out (Nat.le_refl _)) (fun g hg => .inl hg) (fun _ h => h)) (FrV.none_ _ _)
   (by have := HLN.out; omega) (by have := HLN.out; omega) (by omega))
 have q0 := (HX3.out.cell 0).trans rfl
 have q1 := (HX3.out.cell 1).trans rfl
 have q2 := (HX3.out.cell 2).trans rfl
 have q3 := (HX3.out.cell 3).trans rfl
 have q4 := (HX3.out.cell 4).trans rfl
 have q5 := (HX3.out.cell 5).trans rfl
 go_wp2_with fail
 refine HWC.out.mono ?_
 rintro r w7 ⟨A7, c7, rfl, hv7, hb7⟩
 have HV7 := Lib.hid hv7
 have HB7 := Lib.hid (HB3.out.trans (hb7.mono HB3.out.size))
 have HZ7 := Lib.hid (HZ3.out.below hb7 HZ3.out.lt)
 clear hv7 hb7 q0 q1 q2 q3 q4 q5
 have fz0 : (w7).frozen? ⟨w.heap.size + 1, 0, none⟩ = false := HZ7.out.frozen 0
 have fq0 := (HZ7.out.cell 0).trans rfl
 have fz1 : (w7).frozen? ⟨w.heap.size + 1, 1, none⟩ = false := HZ7.out.frozen 1
 have fq1 := (HZ7.out.cell 1).trans rfl
 have fz2 : (w7).frozen? ⟨w.heap.size + 1, 2, none⟩ = false := HZ7.out.frozen 2
 have fq2 := (HZ7.out.cell 2).trans rfl
 have fz3 : (w7).frozen? ⟨w.heap.size + 1, 3, none⟩ = false := HZ7.out.frozen 3
 have fq3 := (HZ7.out.cell 3).trans rfl
 have fz4 : (w7).frozen? ⟨w.heap.size + 1, 4, none⟩ = false := HZ7.out.frozen 4
 have fq4 := (HZ7.out.cell 4).trans rfl
 have fz5 : (w7).frozen? ⟨w.heap.size + 1, 5, none⟩ = false := HZ7.out.frozen 5
 have fq5 := (HZ7.out.cell 5).trans rfl
 go_wp2
 have HBZ : Hid (Below w.heap.size w (set6 w7 (w.heap.size + 1) (.string (txt a.name)) (.string (txt a.key)) (.int .i64 a.kind) (.int .u64 (a.num : Int)) (.string (txt a.text)) (.slice A7 Rf.len c7))) := Lib.hid (HB7.out.trans (set6_below (by omega)))
 have HLZ : Hid (LieP d w.heap.size (set6 w7 (w.heap.size + 1) (.string (txt a.name)) (.string (txt a.key)) (.int .i64 a.kind) (.int .u64 (a.num : Int)) (.string (txt a.text)) (.slice A7 Rf.len c7)) (ndC a (.slice A7 Rf.len c7)) (a, Rf)) := Lib.hid (LieP.after (B := w.heap.size + 2) ((LieP.make (b := d) (B := w.heap.size + 2) HV7.out).set6 (by have := HD.out; omega) (by omega) _ _ _ _ _ _) (by omega))
 refine bodyPost_ret (results_cell_row rfl _ _ (w.heap.size + 1) 27 _ (0, 0) _ rfl (HZ7.out.set6 _ _ _ _ _ _) Tryz.underlying27 rfl (by kernel_rfl)) rfl ?_
 exact ⟨_, rfl, HLZ.out, HBZ.out⟩
set_option maxRecDepth 100000 in
set_option maxHeartbeats 4000000 in
theorem rcut_deep (d : Nat) (a : NdD) (f : NdF) (A : Option Addr) (c : Nat) (s t : Stp) (l : List Stp) (g o N m i : Nat) (a1 : NdD) (q : NdF) (za : NdD) (zf Rf : NdF) (w : World) (hd : d ≤ w.heap.size) (hx : LieB d w (ndC a (.slice A f.len c)) (a, f)) (hl : f.len ≤ 1000000)
  (hv : WayV w.heap.size w (.slice (some ⟨g, o, none⟩) N m) (s :: t :: l)) (hf : findN s f = some i) (hy : f.get? i = some (a1, q)) (hR : withF f i 1 (oneF (za, zf)) = Rf)
  (hI : ∀ (cs : List Value) (v : Value) (W : World), d ≤ W.heap.size → LieB d W cs (a1, q) → WayV W.heap.size W v (t :: l) → Calls Tryz.prog 28 #[.agg cs.toArray, v] W (PTreP1 d (za, zf) W)) :
  Calls Tryz.prog 28 #[.agg #[.string (txt a.name), .string (txt a.key), .int .i64 a.kind, .int .u64 (a.num : Int), .string (txt a.text), .slice A f.len c], .slice (some ⟨g, o, none⟩) N m] w (PTreP1 d (a, Rf) w) := by
 obtain ⟨h1, h2, h3, h4⟩ := get_boxes a f A c w (hx.keep (fun _ _ => rfl) hd)
 obtain ⟨g', o', eg', hNl, hNm, hg, hs1, hs2⟩ := hv.at (j := 0) (s := s) rfl
 injection eg' with eg'
 injection eg' with eg1 eg2 eg3
 subst eg1 eg2
 have hs : Stp0 w g o s := ⟨by simpa using hs1, by simpa using hs2⟩
 have hN : 0 < N := by rw [hNl]; simp
 have i1 : (0 : Int) < (N : Int) := by omega
 have i2 : (1 : Int) ≤ (N : Int) := by omega
 have i3 : (N : Int) ≤ (m : Int) := by omega
 have HF : Hid (Calls Tryz.prog 29 #[.agg #[.string (txt a.name), .string (txt a.key), .int .i64 a.kind, .int .u64 (a.num : Int), .string (txt a.text), .slice A f.len c], .agg #[.string (txt s.1), .string (txt s.2)]] ((w.alloc (.cells #[.string (txt a.name), .string (txt a.key), .int .i64 a.kind, .int .u64 (a.num : Int), .string (txt a.text), .slice A f.len c] 27)).alloc (.cells #[.string ⟨#[]⟩, .string ⟨#[]⟩, .int .i64 0, .int .u64 0, .string ⟨#[]⟩, .slice none 0 0] 27)).drew (Ans9 (.int .i64 (i : Int)) ((w.alloc (.cells #[.string (txt a.name), .string (txt a.key), .int .i64 a.kind, .int .u64 (a.num : Int), .string (txt a.text), .slice A f.len c] 27)).alloc (.cells #[.string ⟨#[]⟩, .string ⟨#[]⟩, .int .i64 0, .int .u64 0, .string ⟨#[]⟩, .slice none 0 0] 27)).drew)) := Lib.hid (by
  have h := rfindn_any s (a, f) _ ((w.alloc (.cells #[.string (txt a.name), .string (txt a.key), .int .i64 a.kind, .int .u64 (a.num : Int), .string (txt a.text), .slice A f.len c] 27)).alloc (.cells #[.string ⟨#[]⟩, .string ⟨#[]⟩, .int .i64 0, .int .u64 0, .string ⟨#[]⟩, .slice none 0 0] 27)).drew h4 hl
  rw [show findIx s f = (i : Int) by unfold findIx; rw [hf]] at h
  exact h)
 have hk := LieB.row hx
 have j1 : (0 : Int) ≤ (i : Int) := by omega
 have HX := Lib.hid h1
 have HZ := Lib.hid h2
 have HB := Lib.hid h3
 have HSt := Lib.hid (hs.below hg h3.drew)
 have HGL := Lib.hid hg
 have HD := Lib.hid hd
 have hi := Fr.get_lt hy
 obtain ⟨b, p, A1, c1, rfl, -, -, hbl, hrow, hcl⟩ := hk.at hy
 have hN2 : N = (t :: l).length + 1 := hNl
 have hN3 : 1 < N := by rw [hN2]; simp
 have n1 : ((N : Int) == 1) = false := by rw [beq_eq_false_iff_ne]; omega
 have n2 : (N == 1) = false := by rw [beq_eq_false_iff_ne]; omega
 have hm1 : ¬ m = 1 := by omega
 have j2 : (i : Int) < (f.len : Int) := by omega
 have HBL := Lib.hid (Nat.lt_of_lt_of_le hbl hd)
 have HI := Lib.hid hI
 have HV := Lib.hid hv
 have HC := Lib.hid hcl
 have HR := Lib.hid hrow
 have HK := Lib.hid hk
 have HRF := Lib.hid hR
 have HLN := Lib.hid (And.intro hl hi)
 clear h1 h2 h3 h4 hx hl hs hf hg hk hbl hrow hcl hI hv hs1 hs2 hNl hNm hy hi hd hR hN2
 go_enter Tryz.func28, Tryz.ntmps28
 go_wp2_with fail
 refine wp_region_noPanic ?_
 refine wp_region_held_drew (S := fun _ => True) (by kernel_rfl) trivial (fun hS => ?_)
 refine held_more (S' := fun w' => Blk w' w.heap.size 27 #[.string (txt a.name), .string (txt a.key), .int .i64 a.kind, .int .u64 (a.num : Int), .string (txt a.text), .slice (some ⟨b, p, none⟩) f.len c] ∧ Stp0 w' g o s) (fun _ _ => trivial) _ _ _ _ ?_
 replace hS := And.intro (HX.out.below (Below.refl _ _).drew HX.out.lt) HSt.out
 refine wpAnyH_take (i := 0) (oi := ?o_6) (v := ?v_6) ?i_6 (by kernel_rfl) (by kernel_rfl) (by kernel_rfl) (fun _ _ _ h => h) (Or.inl ⟨?g_6, ?y_6⟩) hS ?_
 case i_6 => simp only [layG]; rfl
 case g_6 => rfl
 case y_6 => (intro w hSw; have q0 := (hSw.1.cell 0).trans rfl; have q1 := (hSw.1.cell 1).trans rfl; have q2 := (hSw.1.cell 2).trans rfl; have q3 := (hSw.1.cell 3).trans rfl; have q4 := (hSw.1.cell 4).trans rfl; have q5 := (hSw.1.cell 5).trans rfl; (go_simp <;> with_reducible rfl))
 (try simp only [Act.put, layS])
 refine wpAnyH_take (i := 1) (oi := ?o_7) (v := ?v_7) ?i_7 (by kernel_rfl) (by kernel_rfl) (by kernel_rfl) (fun _ _ _ h => h) (Or.inl ⟨?g_7, ?y_7⟩) hS ?_
 case i_7 => simp only [layG]; rfl
 case g_7 => rfl
 case y_7 => (intro w hSw; (go_simp <;> with_reducible rfl))
 (try simp only [Act.put, layS])
 refine wpAnyH_take (i := 2) (oi := ?o_8) (v := ?v_8) ?i_8 (by kernel_rfl) (by kernel_rfl) (by kernel_rfl) (fun _ _ _ h => h) (Or.inl ⟨?g_8, ?y_8⟩) hS ?_
 case i_8 => simp only [layG]; rfl
 case g_8 => rfl
 case y_8 => (intro w hSw; (go_simp <;> with_reducible rfl))
 (try simp only [Act.put, layS])
 refine wpAnyH_take (i := 3) (oi := ?o_9) (v := ?v_9) ?i_9 (by kernel_rfl) (by kernel_rfl) (by kernel_rfl) (fun _ _ _ h => h) (Or.inl ⟨?g_9, ?y_9⟩) hS ?_
 case i_9 => simp only [layG]; rfl
 case g_9 => rfl
 case y_9 => (intro w hSw; have q0 := hSw.2.1; have q1 := hSw.2.2; (go_simp <;> with_reducible rfl))
 (try simp only [Act.put, layS])
 refine wpAnyH_ready (rs := [4]) (by kernel_rfl) (by simp) ?_
 refine (AllReadyH.cons (o := ?or_a) ?ir_a (fun K hK => ?str_a) AllReadyH.nil)
 case ir_a => simp only [layG]; rfl
 rw [if_pos (by rfl)]
 go_simp
 refine HF.out.mono ?_
 rintro r w3 ⟨rfl, hb3⟩
 have HB3 := Lib.hid (HB.out.drew.trans (hb3.mono HB.out.drew.size))
 have HZ3 := Lib.hid ((HZ.out.below (Below.refl _ _).drew HZ.out.lt).below hb3 HZ.out.lt)
 have HX3 := Lib.hid ((HX.out.below (Below.refl _ _).drew HX.out.lt).below hb3 HX.out.lt)
 have HW3 := Lib.hid hb3
 clear hb3
 go_wp2_with fail
 refine hK.out _ _ ?sr_a (fun hS => ?_)
 case sr_a => (exact ⟨HX3.out, HSt.out.below (Nat.lt_of_lt_of_le HGL.out HB.out.drew.size) HW3.out⟩)
 clear hK K
 (try simp only [Act.put, layS])
 refine wpAnyH_take (i := 5) (oi := ?o_b) (v := ?v_b) ?i_b (by kernel_rfl) (by kernel_rfl) (by kernel_rfl) (fun _ _ _ h => h) (Or.inl ⟨?g_b, ?y_b⟩) hS ?_
 case i_b => simp only [layG]; rfl
 case g_b => rfl
 case y_b => (intro w hSw; (go_simp <;> with_reducible rfl))
 (try simp only [Act.put, layS])
 refine wpAnyH_done (by kernel_rfl) ?_ _
 refine NoPanic.normal ?_
 clear hS
 go_wp2_with fail
 have HX4 := Lib.hid (HX3.out.below (Below.refl _ _).drew HX3.out.lt)
 have HZ4 := Lib.hid (HZ3.out.below (Below.refl _ _).drew HZ3.out.lt)
 have HC4 : Hid (∀ j u, (ndC a1 (.slice A1 q.len c1))[j]? = some u → w3.drew.cell? ⟨b, p + i * 6 + j, none⟩ = some u) := Lib.hid (fun j u hu => (HB3.out.drew.cell (p := ⟨b, p + i * 6 + j, none⟩) HBL.out).trans (HC.out j u hu))
 have HI1 : Hid (Calls Tryz.prog 28 #[.agg #[.string (txt a1.name), .string (txt a1.key), .int .i64 a1.kind, .int .u64 (a1.num : Int), .string (txt a1.text), .slice A1 q.len c1], .slice (some ⟨g, o + 2, none⟩) (N - 1) (m - 1)] w3.drew (PTreP1 d (za, zf) w3.drew)) := Lib.hid
  (HI.out _ _ w3.drew (Nat.le_trans HD.out HB3.out.drew.size) (LieB.make (HR.out.under HB3.out.drew HD.out (Nat.le_refl _))) (way_tail1 (HV.out.under HB3.out.drew (Nat.le_refl _) HB3.out.drew.size)))
 refine wp_region_noPanic ?_
 refine wp_region_held_drew (S := fun _ => True) (by kernel_rfl) trivial (fun hS => ?_)
 refine held_more (S' := (fun w' => Blk w' w.heap.size 27 #[.string (txt a.name), .string (txt a.key), .int .i64 a.kind, .int .u64 (a.num : Int), .string (txt a.text), .slice (some ⟨b, p, none⟩) f.len c] ∧ ∀ j u, (ndC a1 (.slice A1 q.len c1))[j]? = some u → w'.cell? ⟨b, p + i * 6 + j, none⟩ = some u)) (fun _ _ => trivial) _ _ _ _ ?_
 replace hS := And.intro HX4.out HC4.out
 refine wpAnyH_take (i := 0) (oi := ?o_c) (v := ?v_c) ?i_c (by kernel_rfl) (by kernel_rfl) (by kernel_rfl) (fun _ _ _ h => h) (Or.inl ⟨?g_c, ?y_c⟩) hS ?_
 case i_c => simp only [layG]; rfl
 case g_c => rfl
 case y_c => (intro w hSw; have q0 := (hSw.1.cell 0).trans rfl; have q1 := (hSw.1.cell 1).trans rfl; have q2 := (hSw.1.cell 2).trans rfl; have q3 := (hSw.1.cell 3).trans rfl; have q4 := (hSw.1.cell 4).trans rfl; have q5 := (hSw.1.cell 5).trans rfl; (go_simp <;> with_reducible rfl))
 (try simp only [Act.put, layS])
 refine wpAnyH_take (i := 1) (oi := ?o_d) (v := ?v_d) ?i_d (by kernel_rfl) (by kernel_rfl) (by kernel_rfl) (fun _ _ _ h => h) (Or.inl ⟨?g_d, ?y_d⟩) hS ?_
 case i_d => simp only [layG]; rfl
 case g_d => rfl
 case y_d => (intro w hSw; (go_simp <;> with_reducible rfl))
 (try simp only [Act.put, layS])
 refine wpAnyH_take (i := 2) (oi := ?o_e) (v := ?v_e) ?i_e (by kernel_rfl) (by kernel_rfl) (by kernel_rfl) (fun _ _ _ h => h) (Or.inl ⟨?g_e, ?y_e⟩) hS ?_
 case i_e => simp only [layG]; rfl
 case g_e => rfl
 case y_e => (intro w hSw; (go_simp <;> with_reducible rfl))
 (try simp only [Act.put, layS])
 refine wpAnyH_take (i := 3) (oi := ?o_f) (v := ?v_f) ?i_f (by kernel_rfl) (by kernel_rfl) (by kernel_rfl) (fun _ _ _ h => h) (Or.inl ⟨?g_f, ?y_f⟩) hS ?_
 case i_f => simp only [layG]; rfl
 case g_f => rfl
 case y_f => (intro w hSw; have q5 := (hSw.1.cell 5).trans rfl; (go_simp <;> with_reducible rfl))
 (try simp only [Act.put, layS])
 refine wpAnyH_take (i := 4) (oi := ?o_g) (v := ?v_g) ?i_g (by kernel_rfl) (by kernel_rfl) (by kernel_rfl) (fun _ _ _ h => h) (Or.inl ⟨?g_g, ?y_g⟩) hS ?_
 case i_g => simp only [layG]; rfl
 case g_g => rfl
 case y_g => (intro w hSw; (go_simp <;> with_reducible rfl))
 (try simp only [Act.put, layS])
 refine wpAnyH_take (i := 5) (oi := ?o_h) (v := ?v_h) ?i_h (by kernel_rfl) (by kernel_rfl) (by kernel_rfl) (fun _ _ _ h => h) (Or.inl ⟨?g_h, ?y_h⟩) hS ?_
 case i_h => simp only [layG]; rfl
 case g_h => rfl
 case y_h => (intro w hSw; (go_simp <;> with_reducible rfl))
 (try simp only [Act.put, layS])
 refine wpAnyH_take (i := 6) (oi := ?o_i) (v := ?v_i) ?i_i (by kernel_rfl) (by kernel_rfl) (by kernel_rfl) (fun _ _ _ h => h) (Or.inl ⟨?g_i, ?y_i⟩) hS ?_
 case i_i => simp only [layG]; rfl
 case g_i => rfl
 case y_i => (intro w hSw; have u0 : w.cell? ⟨b, p + i * 6, none⟩ = _ := hSw.2 0 _ rfl; have u1 := hSw.2 1 _ rfl; have u2 := hSw.2 2 _ rfl; have u3 := hSw.2 3 _ rfl; have u4 := hSw.2 4 _ rfl; have u5 := hSw.2 5 _ rfl; (go_simp <;> with_reducible rfl))
 (try simp only [Act.put, layS])
 refine wpAnyH_take (i := 7) (oi := ?o_j) (v := ?v_j) ?i_j (by kernel_rfl) (by kernel_rfl) (by kernel_rfl) (fun _ _ _ h => h) (Or.inl ⟨?g_j, ?y_j⟩) hS ?_
 case i_j => simp only [layG]; rfl
 case g_j => rfl
 case y_j => (intro w hSw; (go_simp <;> with_reducible rfl))
 (try simp only [Act.put, layS])
 refine wpAnyH_take (i := 8) (oi := ?o_k) (v := ?v_k) ?i_k (by kernel_rfl) (by kernel_rfl) (by kernel_rfl) (fun _ _ _ h => h) (Or.inl ⟨?g_k, ?y_k⟩) hS ?_
 case i_k => simp only [layG]; rfl
 case g_k => rfl
 case y_k => (intro w hSw; (go_simp <;> with_reducible rfl))
 (try simp only [Act.put, layS])
 refine wpAnyH_ready (rs := [9]) (by kernel_rfl) (by simp) ?_
 refine (AllReadyH.cons (o := ?or_l) ?ir_l (fun K hK => ?str_l) AllReadyH.nil)
 case ir_l => simp only [layG]; rfl
 rw [if_pos (by rfl)]
 go_simp
 refine HI1.out.mono ?_
 intro r w6 hr
 obtain ⟨A6, c6, rfl, hl6, hb6⟩ := hr.flat
 have HL6 := Lib.hid hl6
 have HB6 := Lib.hid (HB3.out.drew.trans (hb6.mono HB3.out.drew.size))
 have HX6 := Lib.hid (HX4.out.below hb6 HX4.out.lt)
 have HZ6 := Lib.hid (HZ4.out.below hb6 HZ4.out.lt)
 have HC6 : Hid (∀ j u, (ndC a1 (.slice A1 q.len c1))[j]? = some u → w6.cell? ⟨b, p + i * 6 + j, none⟩ = some u) := Lib.hid (fun j u hu => (hb6.cell (p := ⟨b, p + i * 6 + j, none⟩) (Nat.lt_of_lt_of_le HBL.out HB3.out.drew.size)).trans (HC4.out j u hu))
 have HW6 := Lib.hid hb6
 clear hb6 hr hl6
 go_wp2_with fail
 refine hK.out _ _ ?sr_l (fun hS => ?_)
 case sr_l => (exact ⟨HX6.out, HC6.out⟩)
 clear hK K
 (try simp only [Act.put, layS])
 refine wpAnyH_ready (rs := [10]) (by kernel_rfl) (by simp) ?_
 refine (AllReadyH.cons (o := ?or_m) ?ir_m (fun K hK => ?str_m) AllReadyH.nil)
 case ir_m => simp only [layG]; rfl
 rw [if_pos (by rfl)]
 go_simp
 refine hK.out _ _ ?sr_m (fun hS => ?_)
 case sr_m => (exact ⟨HX6.out.alloc _, fun j u hu => (Below.cell (B := w6.heap.size) ((Below.refl w6.heap.size w6).alloc (Nat.le_refl _) (.cells #[.string (txt za.name), .string (txt za.key), .int .i64 za.kind, .int .u64 (za.num : Int), .string (txt za.text), .slice A6 zf.len c6] 27)) (p := ⟨b, p + i * 6 + j, none⟩) (Nat.lt_of_lt_of_le HBL.out HB6.out.size)).trans (HC6.out j u hu)⟩)
 clear hK K
 (try simp only [Act.put, layS])
 have hal : Below w6.heap.size w6 (w6.alloc (.cells #[.string (txt za.name), .string (txt za.key), .int .i64 za.kind, .int .u64 (za.num : Int), .string (txt za.text), .slice A6 zf.len c6] 27)) := (Below.refl _ _).alloc (Nat.le_refl _) _
 have HWC : Hid (Calls Tryz.prog 41 #[.agg #[.string (txt a.name), .string (txt a.key), .int .i64 a.kind, .int .u64 (a.num : Int), .string (txt a.text), .slice (some ⟨b, p, none⟩) f.len c], .int .i64 (i : Int), .int .i64 1, .slice (some ⟨w6.heap.size, 0, none⟩) 1 1] (w6.alloc (.cells #[.string (txt za.name), .string (txt za.key), .int .i64 za.kind, .int .u64 (za.num : Int), .string (txt za.text), .slice A6 zf.len c6] 27)) (WithP d (w.heap.size + 2) a Rf (w6.alloc (.cells #[.string (txt za.name), .string (txt za.key), .int .i64 za.kind, .int .u64 (za.num : Int), .string (txt za.text), .slice A6 zf.len c6] 27)))) := Lib.hid (by
  have hz3 : w.heap.size + 1 < w3.heap.size := HZ3.out.lt
  have hz6 : w3.heap.size ≤ w6.heap.size := HW6.out.size
  have hzs : (w6.alloc (.cells #[.string (txt za.name), .string (txt za.key), .int .i64 za.kind, .int .u64 (za.num : Int), .string (txt za.text), .slice A6 zf.len c6] 27)).heap.size = w6.heap.size + 1 := by simp
  have hdd := HD.out
  rw [← HRF.out]
  exact rwith_any d (w.heap.size + 2) a f (oneF (za, zf)) (some ⟨b, p, none⟩) f.len c i 1 (some ⟨w6.heap.size, 0, none⟩) 1 1 (w6.alloc (.cells #[.string (txt za.name), .string (txt za.key), .int .i64 za.kind, .int .u64 (za.num : Int), .string (txt za.text), .slice A6 zf.len c6] 27)) (by omega) (by omega)
   (FrV.mono stay_nd (HK.out.under (HB6.out.trans (hal.mono HB6.out.size)) HD.out (Nat.le_refl _)) (fun g hg => .inl hg) (fun _ h => h))
   (row_one (FrN.kept stay_nd HL6.out (fun g hg => Below.heap_alloc w6 _ g (by rcases hg with h | h <;> omega)) (fun g hg => by rcases hg with h | h; exact .inl h; exact .inr ⟨by have : w3.drew.heap.size = w3.heap.size := rfl; omega, by omega⟩) (fun _ h => h.elim) (fun _ h => h)) (.inr ⟨by omega, by omega⟩) (Blk.new w6 27 #[.string (txt za.name), .string (txt za.key), .int .i64 za.kind, .int .u64 (za.num : Int), .string (txt za.text), .slice A6 zf.len c6]))
   (by have := HLN.out; omega) (by have := HLN.out; omega) (by omega))
 have HALL := Lib.hid hal
 clear hal
 refine wpAnyH_ready (rs := [11]) (by kernel_rfl) (by simp) ?_
 refine (AllReadyH.cons (o := ?or_n) ?ir_n (fun K hK => ?str_n) AllReadyH.nil)
 case ir_n => simp only [layG]; rfl
 rw [if_pos (by rfl)]
 go_simp
 refine HWC.out.mono ?_
 rintro r w7 ⟨A7, c7, rfl, hv7, hb7⟩
 have HV7 := Lib.hid hv7
 have HB7 := Lib.hid ((HB6.out.trans (HALL.out.mono HB6.out.size)).trans (hb7.mono (by have h1 := HB6.out.size; simp; omega)))
 have HX7 := Lib.hid ((HX6.out.alloc (.cells #[.string (txt za.name), .string (txt za.key), .int .i64 za.kind, .int .u64 (za.num : Int), .string (txt za.text), .slice A6 zf.len c6] 27)).below hb7 (HX6.out.alloc (.cells #[.string (txt za.name), .string (txt za.key), .int .i64 za.kind, .int .u64 (za.num : Int), .string (txt za.text), .slice A6 zf.len c6] 27)).lt)
 have HZ7 := Lib.hid ((HZ6.out.alloc (.cells #[.string (txt za.name), .string (txt za.key), .int .i64 za.kind, .int .u64 (za.num : Int), .string (txt za.text), .slice A6 zf.len c6] 27)).below hb7 (HZ6.out.alloc (.cells #[.string (txt za.name), .string (txt za.key), .int .i64 za.kind, .int .u64 (za.num : Int), .string (txt za.text), .slice A6 zf.len c6] 27)).lt)
 have HC7 : Hid (∀ j u, (ndC a1 (.slice A1 q.len c1))[j]? = some u → w7.cell? ⟨b, p + i * 6 + j, none⟩ = some u) := Lib.hid (fun j u hu => (HB7.out.cell (p := ⟨b, p + i * 6 + j, none⟩) HBL.out).trans (HC.out j u hu))
 clear hv7 hb7
 go_wp2_with fail
 refine hK.out _ _ ?sr_n (fun hS => ?_)
 case sr_n => (exact ⟨HX7.out, HC7.out⟩)
 clear hK K
 (try simp only [Act.put, layS])
 refine wpAnyH_ready (rs := [12]) (by kernel_rfl) (by simp) ?_
 refine (AllReadyH.cons (o := ?or_o) ?ir_o (fun K hK => ?str_o) AllReadyH.nil)
 case ir_o => simp only [layG]; rfl
 rw [if_pos (by rfl)]
 have fz0 : (w7).frozen? ⟨w.heap.size + 1, 0, none⟩ = false := HZ7.out.frozen 0
 have fq0 := (HZ7.out.cell 0).trans rfl
 have fz1 : (w7).frozen? ⟨w.heap.size + 1, 1, none⟩ = false := HZ7.out.frozen 1
 have fq1 := (HZ7.out.cell 1).trans rfl
 have fz2 : (w7).frozen? ⟨w.heap.size + 1, 2, none⟩ = false := HZ7.out.frozen 2
 have fq2 := (HZ7.out.cell 2).trans rfl
 have fz3 : (w7).frozen? ⟨w.heap.size + 1, 3, none⟩ = false := HZ7.out.frozen 3
 have fq3 := (HZ7.out.cell 3).trans rfl
 have fz4 : (w7).frozen? ⟨w.heap.size + 1, 4, none⟩ = false := HZ7.out.frozen 4
 have fq4 := (HZ7.out.cell 4).trans rfl
 have fz5 : (w7).frozen? ⟨w.heap.size + 1, 5, none⟩ = false := HZ7.out.frozen 5
 have fq5 := (HZ7.out.cell 5).trans rfl
 go_simp
 refine hK.out _ _ ?sr_o (fun hS => ?_)
 case sr_o => (exact ⟨(set6_other (w := w7) (b := w.heap.size + 1) (by omega)).trans HX7.out, fun j u hu => (World.cell?_of_block (set6_other (w := w7) (b := w.heap.size + 1) (by have := HBL.out; show b ≠ _; omega))).trans (HC7.out j u hu)⟩)
 clear hK K
 (try simp only [Act.put, layS])
 refine wpAnyH_done (by kernel_rfl) ?_ _
 refine NoPanic.normal ?_
 clear hS
 go_wp2
 have HBZ : Hid (Below w.heap.size w (set6 w7 (w.heap.size + 1) (.string (txt a.name)) (.string (txt a.key)) (.int .i64 a.kind) (.int .u64 (a.num : Int)) (.string (txt a.text)) (.slice A7 Rf.len c7))) := Lib.hid (HB7.out.trans (set6_below (by omega)))
 have HLZ : Hid (LieP d w.heap.size (set6 w7 (w.heap.size + 1) (.string (txt a.name)) (.string (txt a.key)) (.int .i64 a.kind) (.int .u64 (a.num : Int)) (.string (txt a.text)) (.slice A7 Rf.len c7)) (ndC a (.slice A7 Rf.len c7)) (a, Rf)) := Lib.hid (LieP.after (B := w.heap.size + 2) ((LieP.make (b := d) (B := w.heap.size + 2) HV7.out).set6 (by have := HD.out; omega) (by omega) _ _ _ _ _ _) (by omega))
 refine bodyPost_ret (results_cell_row rfl _ _ (w.heap.size + 1) 27 _ (0, 0) _ rfl (HZ7.out.set6 _ _ _ _ _ _) Tryz.underlying27 rfl (by kernel_rfl)) rfl ?_
 exact ⟨_, rfl, HLZ.out, HBZ.out⟩
theorem rcut_any (d : Nat) : ∀ (l : List Stp) (x z : Nd) (cs : List Value) (v : Value) (w : World), d ≤ w.heap.size → LieB d w cs x → WayV w.heap.size w v l → Few9 x → l ≠ [] → getX x l = some z →
  Calls Tryz.prog 28 #[.agg cs.toArray, v] w (PTreP1 d (cutX x l) w) := by
 intro l
 induction l with
 | nil => intro x z cs v w _ _ _ _ h; exact absurd rfl h
 | cons s l ih =>
  intro x z cs v w hd hx hv hfew _ hz
  obtain ⟨A, c, rfl, hk⟩ := hx.shape
  obtain ⟨a, f⟩ := x
  obtain ⟨B, m, rfl⟩ := hv.shape
  obtain ⟨g, o, rfl, hN, hNm, hg, hs1, hs2⟩ := hv.at (j := 0) (s := s) rfl
  have hl : f.len ≤ 1000000 := Nat.le_trans (Fr.len_size f) hfew
  rw [getX.eq_def] at hz
  simp only at hz
  cases h1 : gtF s f with
  | none => rw [h1] at hz; cases hz
  | some u =>
   rw [h1] at hz
   obtain ⟨i, hfi, hgi⟩ := getF_find h1
   cases l with
   | nil =>
    rw [cutX_one]
    exact rcut_one d a f A c s g o _ m i (delF s f) w hd hx hl hv hfi (Fr.get_lt hgi) (with_del hfi)
   | cons t l =>
    rw [cut_more]
    simp only
    rw [h1]
    obtain ⟨a1, q⟩ := u
    exact rcut_deep d a f A c s t l g o _ m i a1 q (cutX (a1, q) (t :: l)).1 (cutX (a1, q) (t :: l)).2 _ w hd hx hl hv hfi hgi (with_rep hfi)
     (fun cs v W h3 h4 h5 => ih (a1, q) z cs v W h3 h4 h5 (by have h4 : q.size < f.size := Fr.size_get hgi; have : f.size ≤ 1000000 := hfew; show q.size ≤ 1000000; omega) (by simp) hz)
end Go.Proofs.YtljjaikejfoanaaGreat
