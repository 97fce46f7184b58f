/- What the laws of package tree want of TreCutR. -/
import Derived.Test.YtgipnemcmiohlaaZ9TreSetS
namespace Go.Proofs.Ytgipnemcmiohlaa
open Go.RowKit
set_option linter.unusedSimpArgs false
set_option linter.unusedVariables false
theorem rSet_any (d : Nat) (x y : Nd) (l : List Stp) (cs ds : List Value) (v : Value) (w : World) (hd : d ≤ w.heap.size) (hx : LieB d w cs x) (hy : LieB d w ds y) (hv : WayV w.heap.size w v l) (hfew : Few9 x) (hll : l.length ≤ 1000000) :
    Calls Try.prog 23 #[.agg cs.toArray, v, .agg ds.toArray] w (PTreP d (SetX x l y).1 (.int .i64 ((SetX x l y).2 : Int)) w) := by
  obtain ⟨A, c, rfl, hk⟩ := hx.shape
  obtain ⟨E, ec, rfl, hk2⟩ := hy.shape
  obtain ⟨a, f⟩ := x
  obtain ⟨e, eg⟩ := y
  rcases List.eq_nil_or_concat l with rfl | ⟨l0, s, rfl⟩
  · obtain ⟨B, m, rfl⟩ := hv.shape
    exact rSet_nil d a e f eg A E B c ec m w hd hx
  · obtain ⟨B, m, rfl⟩ := hv.shape
    obtain ⟨g, o, rfl, hN, hNm, hg, hs1, hs2⟩ := hv.at (j := l0.length) (s := s) (by simp)
    have hlen : (l0.concat s).length = l0.length + 1 := by simp
    have hlast : (l0.concat s).getLast? = some s := by simp
    have hdrop : (l0.concat s).dropLast = l0 := by simp
    rw [hlen] at hNm hll hv ⊢
    by_cases h1 : s.1 = e.name
    · by_cases h2 : s.2 = e.key
      · have hs : s = stp e := Prod.ext h1 h2
        have hG : ∀ W, Below w.heap.size w W → Calls Try.prog 21 #[.agg #[.string (txt a.name), .string (txt a.key), .int .i64 a.kind, .int .u64 (a.num : Int), .string (txt a.text), .slice A f.len c], .slice (some ⟨g, o, none⟩) l0.length m] W (PTreP d ((GetX (a, f) l0).1.1, (GetX (a, f) l0).1.2) (.bool (GetX (a, f) l0).2) W) := fun W hW => by
          refine rget_any d l0 (a, f) _ _ W (Nat.le_trans hd hW.size) (hx.under hW hd (Nat.le_refl _)) ?_ hfew
          have h3 := (hv.under hW (Nat.le_refl _) hW.size).front l0.length (by simp)
          rwa [show (l0.concat s).take l0.length = l0 by simp] at h3
        have hSX : SetX (a, f) (l0.concat s) (e, eg) = match getX (a, f) l0 with
            | none => (noN, 30)
            | some p => if p.1.kind ≠ 0 then (noN, 30) else (setX (a, f) (l0.concat s) (e, eg), 0) := by
          unfold SetX
          rw [if_neg (by rw [hlast, hs]; simp), hdrop]
          cases getX (a, f) l0 <;> rfl
        cases hp : getX (a, f) l0 with
        | none =>
          have hGX : GetX (a, f) l0 = (noN, false) := by unfold GetX; rw [hp]
          rw [hSX, hp]
          rw [hGX] at hG
          exact rSet_none d a e f eg A E c ec m g o l0.length s _ _ w hd hx hg hs1 hs2 (by omega) hNm (beq_iff_eq.2 h1) (beq_iff_eq.2 h2) hG
        | some p =>
          have hGX : GetX (a, f) l0 = (p, true) := by unfold GetX; rw [hp]
          rw [hSX, hp]
          rw [hGX] at hG
          simp only
          by_cases hkp : p.1.kind = 0
          · rw [if_neg (by simp [hkp])]
            have hok : okSet (a, f) (l0.concat s) (e, eg) := (ok_iff _ _).2 ⟨by rw [hlast, hs], p, by rw [hdrop]; exact hp, hkp⟩
            exact rSet_ok d a e f eg A E c ec m g o l0.length s _ _ w hd hx hg hs1 hs2 (by omega) hNm (beq_iff_eq.2 h1) (beq_iff_eq.2 h2) hkp _ _
              (fun W hW => rset_any d (e, eg) (l0.concat s) (a, f) _ _ _ W (Nat.le_trans hd hW.size) (hx.under hW hd (Nat.le_refl _)) (hy.under hW hd (Nat.le_refl _)) (hv.under hW (Nat.le_refl _) hW.size) hfew hok) hG
          · rw [if_pos hkp]
            exact rSet_leaf d a e f eg A E c ec m g o l0.length s _ _ w hd hx hg hs1 hs2 (by omega) hNm (beq_iff_eq.2 h1) (beq_iff_eq.2 h2) hkp hG
      · have hSX : SetX (a, f) (l0.concat s) (e, eg) = (noN, 1) := by
          unfold SetX; rw [if_pos (by rw [hlast]; intro h; injection h with h; exact h2 (by rw [h]; rfl))]
        rw [hSX]
        exact rSet_arg_key d a e f eg A E c ec m g o l0.length s w hd hx hg hs1 hs2 (by omega) hNm (beq_iff_eq.2 h1) (beq_eq_false_iff_ne.2 h2)
    · have hSX : SetX (a, f) (l0.concat s) (e, eg) = (noN, 1) := by
        unfold SetX; rw [if_pos (by rw [hlast]; intro h; injection h with h; exact h1 (by rw [h]; rfl))]
      rw [hSX]
      exact rSet_arg_name d a e f eg A E c ec m g o l0.length s w hd hx hg hs1 hs2 (by omega) hNm (beq_eq_false_iff_ne.2 h1)
set_option maxRecDepth 100000 in
set_option maxHeartbeats 4000000 in
theorem rcut_one (d : Nat) (a : NdD) (f : NdF) (A : Option Addr) (c : Nat) (s : Stp) (g o N m i : Nat) (Rf : NdF) (w : World) (hd : d ≤ w.heap.size) (hx : LieB d w (ndC a (.slice A f.len c)) (a, f)) (hl : f.len ≤ 1000000)
    (hv : WayV w.heap.size w (.slice (some ⟨g, o, none⟩) N m) [s]) (hf : findN s f = some i) (hi : i < f.len) (hR : withF f i 1 .nil = Rf) :
    Calls Try.prog 41 #[.agg #[.string (txt a.name), .string (txt a.key), .int .i64 a.kind, .int .u64 (a.num : Int), .string (txt a.text), .slice A f.len c], .slice (some ⟨g, o, none⟩) N m] w (PTreP1 d (a, Rf) w) := by
  obtain ⟨h1, h2, h3, h4⟩ := get_boxes a f A c w (hx.keep (fun _ _ => rfl) hd)
  obtain ⟨g', o', eg', hNl, hNm, hg, hs1, hs2⟩ := hv.at (j := 0) (s := s) rfl
  injection eg' with eg'
  injection eg' with eg1 eg2 eg3
  subst eg1 eg2
  have hs : Stp0 w g o s := ⟨by simpa using hs1, by simpa using hs2⟩
  have hN : 0 < N := by rw [hNl]; simp
  have i1 : (0 : Int) < (N : Int) := by omega
  have i2 : (1 : Int) ≤ (N : Int) := by omega
  have i3 : (N : Int) ≤ (m : Int) := by omega
  have HF : Hid (Calls Try.prog 35 #[.agg #[.string (txt a.name), .string (txt a.key), .int .i64 a.kind, .int .u64 (a.num : Int), .string (txt a.text), .slice A f.len c], .agg #[.string (txt s.1), .string (txt s.2)]] ((w.alloc (.cells #[.string (txt a.name), .string (txt a.key), .int .i64 a.kind, .int .u64 (a.num : Int), .string (txt a.text), .slice A f.len c] 27)).alloc (.cells #[.string ⟨#[]⟩, .string ⟨#[]⟩, .int .i64 0, .int .u64 0, .string ⟨#[]⟩, .slice none 0 0] 27)).drew (Ans9 (.int .i64 (i : Int)) ((w.alloc (.cells #[.string (txt a.name), .string (txt a.key), .int .i64 a.kind, .int .u64 (a.num : Int), .string (txt a.text), .slice A f.len c] 27)).alloc (.cells #[.string ⟨#[]⟩, .string ⟨#[]⟩, .int .i64 0, .int .u64 0, .string ⟨#[]⟩, .slice none 0 0] 27)).drew)) := Lib.hid (by
    have h := rfindn_any s (a, f) _ ((w.alloc (.cells #[.string (txt a.name), .string (txt a.key), .int .i64 a.kind, .int .u64 (a.num : Int), .string (txt a.text), .slice A f.len c] 27)).alloc (.cells #[.string ⟨#[]⟩, .string ⟨#[]⟩, .int .i64 0, .int .u64 0, .string ⟨#[]⟩, .slice none 0 0] 27)).drew h4 hl
    rw [show findIx s f = (i : Int) by unfold findIx; rw [hf]] at h
    exact h)
  have hk := LieB.row hx
  have j1 : (0 : Int) ≤ (i : Int) := by omega
  have HX := Lib.hid h1
  have HZ := Lib.hid h2
  have HB := Lib.hid h3
  have HSt := Lib.hid (hs.below hg h3.drew)
  have HGL := Lib.hid hg
  have HD := Lib.hid hd
  have hN2 : N = 1 := hNl
  have HRF := Lib.hid hR
  have HK := Lib.hid hk
  have HLN := Lib.hid (And.intro hl (show i + 1 ≤ f.len by omega))
  clear h1 h2 h3 h4 hx hl hs hf hg hk hv hs1 hs2 hNl hNm hi hd hR
  subst hN2
  go_enter Try.func41, Try.ntmps41
  go_wp2_with fail
  refine wp_region_noPanic ?_
  refine wp_region_held_drew (S := fun _ => True) (by kernel_rfl) trivial (fun hS => ?_)
  refine held_more (S' := fun w' => Blk w' w.heap.size 27 #[.string (txt a.name), .string (txt a.key), .int .i64 a.kind, .int .u64 (a.num : Int), .string (txt a.text), .slice A f.len c] ∧ Stp0 w' g o s) (fun _ _ => trivial) _ _ _ _ ?_
  replace hS := And.intro (HX.out.below (Below.refl _ _).drew HX.out.lt) HSt.out
  refine wpAnyH_take (i := 0) (oi := ?o1_0_1) (v := ?v1_0_1) ?i1_0_1 (by kernel_rfl) (by kernel_rfl) (by kernel_rfl) (fun _ _ _ h => h) (Or.inl ⟨?g1_0_1, ?y1_0_1⟩) hS ?_
  case i1_0_1 => simp only [List.getElem?_toArray, List.getElem?_cons_succ, List.getElem?_cons_zero]; rfl
  case g1_0_1 => rfl
  case y1_0_1 => (intro w hSw; have q0 := (hSw.1.cell 0).trans rfl; have q1 := (hSw.1.cell 1).trans rfl; have q2 := (hSw.1.cell 2).trans rfl; have q3 := (hSw.1.cell 3).trans rfl; have q4 := (hSw.1.cell 4).trans rfl; have q5 := (hSw.1.cell 5).trans rfl; (go_simp <;> with_reducible rfl))
  (try simp only [Act.put, List.setIfInBounds_toArray, List.set_cons_zero, List.set_cons_succ])
  refine wpAnyH_take (i := 1) (oi := ?o1_1_2) (v := ?v1_1_2) ?i1_1_2 (by kernel_rfl) (by kernel_rfl) (by kernel_rfl) (fun _ _ _ h => h) (Or.inl ⟨?g1_1_2, ?y1_1_2⟩) hS ?_
  case i1_1_2 => simp only [List.getElem?_toArray, List.getElem?_cons_succ, List.getElem?_cons_zero]; rfl
  case g1_1_2 => rfl
  case y1_1_2 => (intro w hSw; (go_simp <;> with_reducible rfl))
  (try simp only [Act.put, List.setIfInBounds_toArray, List.set_cons_zero, List.set_cons_succ])
  refine wpAnyH_take (i := 2) (oi := ?o1_2_3) (v := ?v1_2_3) ?i1_2_3 (by kernel_rfl) (by kernel_rfl) (by kernel_rfl) (fun _ _ _ h => h) (Or.inl ⟨?g1_2_3, ?y1_2_3⟩) hS ?_
  case i1_2_3 => simp only [List.getElem?_toArray, List.getElem?_cons_succ, List.getElem?_cons_zero]; rfl
  case g1_2_3 => rfl
  case y1_2_3 => (intro w hSw; (go_simp <;> with_reducible rfl))
  (try simp only [Act.put, List.setIfInBounds_toArray, List.set_cons_zero, List.set_cons_succ])
  refine wpAnyH_take (i := 3) (oi := ?o1_3_4) (v := ?v1_3_4) ?i1_3_4 (by kernel_rfl) (by kernel_rfl) (by kernel_rfl) (fun _ _ _ h => h) (Or.inl ⟨?g1_3_4, ?y1_3_4⟩) hS ?_
  case i1_3_4 => simp only [List.getElem?_toArray, List.getElem?_cons_succ, List.getElem?_cons_zero]; rfl
  case g1_3_4 => rfl
  case y1_3_4 => (intro w hSw; have q0 := hSw.2.1; have q1 := hSw.2.2; (go_simp <;> with_reducible rfl))
  (try simp only [Act.put, List.setIfInBounds_toArray, List.set_cons_zero, List.set_cons_succ])
  refine wpAnyH_ready (rs := [4]) (by kernel_rfl) (by simp) ?_
  refine (AllReadyH.cons (o := ?or1_5_4) ?ir1_5_4 (fun K hK => ?str1_5_4) AllReadyH.nil)
  case ir1_5_4 => simp only [List.getElem?_toArray, List.getElem?_cons_succ, List.getElem?_cons_zero]; rfl
  rw [if_pos (by rfl)]
  go_simp
  refine HF.out.mono ?_
  rintro r w3 ⟨rfl, hb3⟩
  have HB3 := Lib.hid (HB.out.drew.trans (hb3.mono HB.out.drew.size))
  have HZ3 := Lib.hid ((HZ.out.below (Below.refl _ _).drew HZ.out.lt).below hb3 HZ.out.lt)
  have HX3 := Lib.hid ((HX.out.below (Below.refl _ _).drew HX.out.lt).below hb3 HX.out.lt)
  have HW3 := Lib.hid hb3
  clear hb3
  go_wp2_with fail
  refine hK.out _ _ ?sr1_5_4 (fun hS => ?_)
  case sr1_5_4 => (exact ⟨HX3.out, HSt.out.below (Nat.lt_of_lt_of_le HGL.out HB.out.drew.size) HW3.out⟩)
  clear hK K
  (try simp only [Act.put, List.setIfInBounds_toArray, List.set_cons_zero, List.set_cons_succ])
  refine wpAnyH_take (i := 5) (oi := ?o1_5_6) (v := ?v1_5_6) ?i1_5_6 (by kernel_rfl) (by kernel_rfl) (by kernel_rfl) (fun _ _ _ h => h) (Or.inl ⟨?g1_5_6, ?y1_5_6⟩) hS ?_
  case i1_5_6 => simp only [List.getElem?_toArray, List.getElem?_cons_succ, List.getElem?_cons_zero]; rfl
  case g1_5_6 => rfl
  case y1_5_6 => (intro w hSw; (go_simp <;> with_reducible rfl))
  (try simp only [Act.put, List.setIfInBounds_toArray, List.set_cons_zero, List.set_cons_succ])
  refine wpAnyH_done (by kernel_rfl) ?_ _
  refine NoPanic.normal ?_
  clear hS
  have HWC : Hid (Calls Try.prog 49 #[.agg #[.string (txt a.name), .string (txt a.key), .int .i64 a.kind, .int .u64 (a.num : Int), .string (txt a.text), .slice A f.len c], .int .i64 (i : Int), .int .i64 1, .slice none 0 0] w3 (WithP d (w.heap.size + 2) a Rf w3)) := Lib.hid (by
    have hz3 : w.heap.size + 1 < w3.heap.size := HZ3.out.lt
    have hdd := HD.out
    rw [← HRF.out]
    exact rwith_any d (w.heap.size + 2) a f .nil A f.len c i 1 none 0 0 w3 (by omega) (by omega)
      (FrV.mono stay_nd (HK.out.under HB3.out HD.out (Nat.le_refl _)) (fun g hg => .inl hg) (fun _ h => h)) (FrV.none_ _ _)
      (by have := HLN.out; omega) (by have := HLN.out; omega) (by omega))
  have q0 := (HX3.out.cell 0).trans rfl
  have q1 := (HX3.out.cell 1).trans rfl
  have q2 := (HX3.out.cell 2).trans rfl
  have q3 := (HX3.out.cell 3).trans rfl
  have q4 := (HX3.out.cell 4).trans rfl
  have q5 := (HX3.out.cell 5).trans rfl
  go_wp2_with fail
  refine HWC.out.mono ?_
  rintro r w7 ⟨A7, c7, rfl, hv7, hb7⟩
  have HV7 := Lib.hid hv7
  have HB7 := Lib.hid (HB3.out.trans (hb7.mono HB3.out.size))
  have HZ7 := Lib.hid (HZ3.out.below hb7 HZ3.out.lt)
  clear hv7 hb7 q0 q1 q2 q3 q4 q5
  have fz0 : (w7).frozen? ⟨w.heap.size + 1, 0, none⟩ = false := HZ7.out.frozen 0
  have fq0 := (HZ7.out.cell 0).trans rfl
  have fz1 : (w7).frozen? ⟨w.heap.size + 1, 1, none⟩ = false := HZ7.out.frozen 1
  have fq1 := (HZ7.out.cell 1).trans rfl
  have fz2 : (w7).frozen? ⟨w.heap.size + 1, 2, none⟩ = false := HZ7.out.frozen 2
  have fq2 := (HZ7.out.cell 2).trans rfl
  have fz3 : (w7).frozen? ⟨w.heap.size + 1, 3, none⟩ = false := HZ7.out.frozen 3
  have fq3 := (HZ7.out.cell 3).trans rfl
  have fz4 : (w7).frozen? ⟨w.heap.size + 1, 4, none⟩ = false := HZ7.out.frozen 4
  have fq4 := (HZ7.out.cell 4).trans rfl
  have fz5 : (w7).frozen? ⟨w.heap.size + 1, 5, none⟩ = false := HZ7.out.frozen 5
  have fq5 := (HZ7.out.cell 5).trans rfl
  go_wp2
  have HBZ : Hid (Below w.heap.size w (set6 w7 (w.heap.size + 1) (.string (txt a.name)) (.string (txt a.key)) (.int .i64 a.kind) (.int .u64 (a.num : Int)) (.string (txt a.text)) (.slice A7 Rf.len c7))) := Lib.hid (HB7.out.trans (set6_below (by omega)))
  have HLZ : Hid (LieP d w.heap.size (set6 w7 (w.heap.size + 1) (.string (txt a.name)) (.string (txt a.key)) (.int .i64 a.kind) (.int .u64 (a.num : Int)) (.string (txt a.text)) (.slice A7 Rf.len c7)) (ndC a (.slice A7 Rf.len c7)) (a, Rf)) := Lib.hid (LieP.after (B := w.heap.size + 2) ((LieP.make (b := d) (B := w.heap.size + 2) HV7.out).set6 (by have := HD.out; omega) (by omega) _ _ _ _ _ _) (by omega))
  refine bodyPost_ret (results_cell_row rfl _ _ (w.heap.size + 1) 27 _ (0, 0) _ rfl (HZ7.out.set6 _ _ _ _ _ _) Try.underlying27 rfl (by kernel_rfl)) rfl ?_
  exact ⟨_, rfl, HLZ.out, HBZ.out⟩
set_option maxRecDepth 100000 in
set_option maxHeartbeats 4000000 in
theorem rcut_deep (d : Nat) (a : NdD) (f : NdF) (A : Option Addr) (c : Nat) (s t : Stp) (l : List Stp) (g o N m i : Nat) (a1 : NdD) (q : NdF) (za : NdD) (zf Rf : NdF) (w : World) (hd : d ≤ w.heap.size) (hx : LieB d w (ndC a (.slice A f.len c)) (a, f)) (hl : f.len ≤ 1000000)
    (hv : WayV w.heap.size w (.slice (some ⟨g, o, none⟩) N m) (s :: t :: l)) (hf : findN s f = some i) (hy : f.get? i = some (a1, q)) (hR : withF f i 1 (oneF (za, zf)) = Rf)
    (hI : ∀ (cs : List Value) (v : Value) (W : World), d ≤ W.heap.size → LieB d W cs (a1, q) → WayV W.heap.size W v (t :: l) → Calls Try.prog 41 #[.agg cs.toArray, v] W (PTreP1 d (za, zf) W)) :
    Calls Try.prog 41 #[.agg #[.string (txt a.name), .string (txt a.key), .int .i64 a.kind, .int .u64 (a.num : Int), .string (txt a.text), .slice A f.len c], .slice (some ⟨g, o, none⟩) N m] w (PTreP1 d (a, Rf) w) := by
  obtain ⟨h1, h2, h3, h4⟩ := get_boxes a f A c w (hx.keep (fun _ _ => rfl) hd)
  obtain ⟨g', o', eg', hNl, hNm, hg, hs1, hs2⟩ := hv.at (j := 0) (s := s) rfl
  injection eg' with eg'
  injection eg' with eg1 eg2 eg3
  subst eg1 eg2
  have hs : Stp0 w g o s := ⟨by simpa using hs1, by simpa using hs2⟩
  have hN : 0 < N := by rw [hNl]; simp
  have i1 : (0 : Int) < (N : Int) := by omega
  have i2 : (1 : Int) ≤ (N : Int) := by omega
  have i3 : (N : Int) ≤ (m : Int) := by omega
  have HF : Hid (Calls Try.prog 35 #[.agg #[.string (txt a.name), .string (txt a.key), .int .i64 a.kind, .int .u64 (a.num : Int), .string (txt a.text), .slice A f.len c], .agg #[.string (txt s.1), .string (txt s.2)]] ((w.alloc (.cells #[.string (txt a.name), .string (txt a.key), .int .i64 a.kind, .int .u64 (a.num : Int), .string (txt a.text), .slice A f.len c] 27)).alloc (.cells #[.string ⟨#[]⟩, .string ⟨#[]⟩, .int .i64 0, .int .u64 0, .string ⟨#[]⟩, .slice none 0 0] 27)).drew (Ans9 (.int .i64 (i : Int)) ((w.alloc (.cells #[.string (txt a.name), .string (txt a.key), .int .i64 a.kind, .int .u64 (a.num : Int), .string (txt a.text), .slice A f.len c] 27)).alloc (.cells #[.string ⟨#[]⟩, .string ⟨#[]⟩, .int .i64 0, .int .u64 0, .string ⟨#[]⟩, .slice none 0 0] 27)).drew)) := Lib.hid (by
    have h := rfindn_any s (a, f) _ ((w.alloc (.cells #[.string (txt a.name), .string (txt a.key), .int .i64 a.kind, .int .u64 (a.num : Int), .string (txt a.text), .slice A f.len c] 27)).alloc (.cells #[.string ⟨#[]⟩, .string ⟨#[]⟩, .int .i64 0, .int .u64 0, .string ⟨#[]⟩, .slice none 0 0] 27)).drew h4 hl
    rw [show findIx s f = (i : Int) by unfold findIx; rw [hf]] at h
    exact h)
  have hk := LieB.row hx
  have j1 : (0 : Int) ≤ (i : Int) := by omega
  have HX := Lib.hid h1
  have HZ := Lib.hid h2
  have HB := Lib.hid h3
  have HSt := Lib.hid (hs.below hg h3.drew)
  have HGL := Lib.hid hg
  have HD := Lib.hid hd
  have hi := Fr.get_lt hy
  obtain ⟨b, p, A1, c1, rfl, -, -, hbl, hrow, hcl⟩ := hk.at hy
  have hN2 : N = (t :: l).length + 1 := hNl
  have hN3 : 1 < N := by rw [hN2]; simp
  have n1 : ((N : Int) == 1) = false := by rw [beq_eq_false_iff_ne]; omega
  have n2 : (N == 1) = false := by rw [beq_eq_false_iff_ne]; omega
  have hm1 : ¬ m = 1 := by omega
  have j2 : (i : Int) < (f.len : Int) := by omega
  have HBL := Lib.hid (Nat.lt_of_lt_of_le hbl hd)
  have HI := Lib.hid hI
  have HV := Lib.hid hv
  have HC := Lib.hid hcl
  have HR := Lib.hid hrow
  have HK := Lib.hid hk
  have HRF := Lib.hid hR
  have HLN := Lib.hid (And.intro hl hi)
  clear h1 h2 h3 h4 hx hl hs hf hg hk hbl hrow hcl hI hv hs1 hs2 hNl hNm hy hi hd hR hN2
  go_enter Try.func41, Try.ntmps41
  go_wp2_with fail
  refine wp_region_noPanic ?_
  refine wp_region_held_drew (S := fun _ => True) (by kernel_rfl) trivial (fun hS => ?_)
  refine held_more (S' := fun w' => Blk w' w.heap.size 27 #[.string (txt a.name), .string (txt a.key), .int .i64 a.kind, .int .u64 (a.num : Int), .string (txt a.text), .slice (some ⟨b, p, none⟩) f.len c] ∧ Stp0 w' g o s) (fun _ _ => trivial) _ _ _ _ ?_
  replace hS := And.intro (HX.out.below (Below.refl _ _).drew HX.out.lt) HSt.out
  refine wpAnyH_take (i := 0) (oi := ?o2_0_1) (v := ?v2_0_1) ?i2_0_1 (by kernel_rfl) (by kernel_rfl) (by kernel_rfl) (fun _ _ _ h => h) (Or.inl ⟨?g2_0_1, ?y2_0_1⟩) hS ?_
  case i2_0_1 => simp only [List.getElem?_toArray, List.getElem?_cons_succ, List.getElem?_cons_zero]; rfl
  case g2_0_1 => rfl
  case y2_0_1 => (intro w hSw; have q0 := (hSw.1.cell 0).trans rfl; have q1 := (hSw.1.cell 1).trans rfl; have q2 := (hSw.1.cell 2).trans rfl; have q3 := (hSw.1.cell 3).trans rfl; have q4 := (hSw.1.cell 4).trans rfl; have q5 := (hSw.1.cell 5).trans rfl; (go_simp <;> with_reducible rfl))
  (try simp only [Act.put, List.setIfInBounds_toArray, List.set_cons_zero, List.set_cons_succ])
  refine wpAnyH_take (i := 1) (oi := ?o2_1_2) (v := ?v2_1_2) ?i2_1_2 (by kernel_rfl) (by kernel_rfl) (by kernel_rfl) (fun _ _ _ h => h) (Or.inl ⟨?g2_1_2, ?y2_1_2⟩) hS ?_
  case i2_1_2 => simp only [List.getElem?_toArray, List.getElem?_cons_succ, List.getElem?_cons_zero]; rfl
  case g2_1_2 => rfl
  case y2_1_2 => (intro w hSw; (go_simp <;> with_reducible rfl))
  (try simp only [Act.put, List.setIfInBounds_toArray, List.set_cons_zero, List.set_cons_succ])
  refine wpAnyH_take (i := 2) (oi := ?o2_2_3) (v := ?v2_2_3) ?i2_2_3 (by kernel_rfl) (by kernel_rfl) (by kernel_rfl) (fun _ _ _ h => h) (Or.inl ⟨?g2_2_3, ?y2_2_3⟩) hS ?_
  case i2_2_3 => simp only [List.getElem?_toArray, List.getElem?_cons_succ, List.getElem?_cons_zero]; rfl
  case g2_2_3 => rfl
  case y2_2_3 => (intro w hSw; (go_simp <;> with_reducible rfl))
  (try simp only [Act.put, List.setIfInBounds_toArray, List.set_cons_zero, List.set_cons_succ])
  refine wpAnyH_take (i := 3) (oi := ?o2_3_4) (v := ?v2_3_4) ?i2_3_4 (by kernel_rfl) (by kernel_rfl) (by kernel_rfl) (fun _ _ _ h => h) (Or.inl ⟨?g2_3_4, ?y2_3_4⟩) hS ?_
  case i2_3_4 => simp only [List.getElem?_toArray, List.getElem?_cons_succ, List.getElem?_cons_zero]; rfl
  case g2_3_4 => rfl
  case y2_3_4 => (intro w hSw; have q0 := hSw.2.1; have q1 := hSw.2.2; (go_simp <;> with_reducible rfl))
  (try simp only [Act.put, List.setIfInBounds_toArray, List.set_cons_zero, List.set_cons_succ])
  refine wpAnyH_ready (rs := [4]) (by kernel_rfl) (by simp) ?_
  refine (AllReadyH.cons (o := ?or2_5_4) ?ir2_5_4 (fun K hK => ?str2_5_4) AllReadyH.nil)
  case ir2_5_4 => simp only [List.getElem?_toArray, List.getElem?_cons_succ, List.getElem?_cons_zero]; rfl
  rw [if_pos (by rfl)]
  go_simp
  refine HF.out.mono ?_
  rintro r w3 ⟨rfl, hb3⟩
  have HB3 := Lib.hid (HB.out.drew.trans (hb3.mono HB.out.drew.size))
  have HZ3 := Lib.hid ((HZ.out.below (Below.refl _ _).drew HZ.out.lt).below hb3 HZ.out.lt)
  have HX3 := Lib.hid ((HX.out.below (Below.refl _ _).drew HX.out.lt).below hb3 HX.out.lt)
  have HW3 := Lib.hid hb3
  clear hb3
  go_wp2_with fail
  refine hK.out _ _ ?sr2_5_4 (fun hS => ?_)
  case sr2_5_4 => (exact ⟨HX3.out, HSt.out.below (Nat.lt_of_lt_of_le HGL.out HB.out.drew.size) HW3.out⟩)
  clear hK K
  (try simp only [Act.put, List.setIfInBounds_toArray, List.set_cons_zero, List.set_cons_succ])
  refine wpAnyH_take (i := 5) (oi := ?o2_5_6) (v := ?v2_5_6) ?i2_5_6 (by kernel_rfl) (by kernel_rfl) (by kernel_rfl) (fun _ _ _ h => h) (Or.inl ⟨?g2_5_6, ?y2_5_6⟩) hS ?_
  case i2_5_6 => simp only [List.getElem?_toArray, List.getElem?_cons_succ, List.getElem?_cons_zero]; rfl
  case g2_5_6 => rfl
  case y2_5_6 => (intro w hSw; (go_simp <;> with_reducible rfl))
  (try simp only [Act.put, List.setIfInBounds_toArray, List.set_cons_zero, List.set_cons_succ])
  refine wpAnyH_done (by kernel_rfl) ?_ _
  refine NoPanic.normal ?_
  clear hS
  go_wp2_with fail
  have HX4 := Lib.hid (HX3.out.below (Below.refl _ _).drew HX3.out.lt)
  have HZ4 := Lib.hid (HZ3.out.below (Below.refl _ _).drew HZ3.out.lt)
  have HC4 : Hid (∀ j u, (ndC a1 (.slice A1 q.len c1))[j]? = some u → w3.drew.cell? ⟨b, p + i * 6 + j, none⟩ = some u) := Lib.hid (fun j u hu => (HB3.out.drew.cell (p := ⟨b, p + i * 6 + j, none⟩) HBL.out).trans (HC.out j u hu))
  have HI1 : Hid (Calls Try.prog 41 #[.agg #[.string (txt a1.name), .string (txt a1.key), .int .i64 a1.kind, .int .u64 (a1.num : Int), .string (txt a1.text), .slice A1 q.len c1], .slice (some ⟨g, o + 2, none⟩) (N - 1) (m - 1)] w3.drew (PTreP1 d (za, zf) w3.drew)) := Lib.hid
    (HI.out _ _ w3.drew (Nat.le_trans HD.out HB3.out.drew.size) (LieB.make (HR.out.under HB3.out.drew HD.out (Nat.le_refl _))) (way_tail1 (HV.out.under HB3.out.drew (Nat.le_refl _) HB3.out.drew.size)))
  refine wp_region_noPanic ?_
  refine wp_region_held_drew (S := fun _ => True) (by kernel_rfl) trivial (fun hS => ?_)
  refine held_more (S' := (fun w' => Blk w' w.heap.size 27 #[.string (txt a.name), .string (txt a.key), .int .i64 a.kind, .int .u64 (a.num : Int), .string (txt a.text), .slice (some ⟨b, p, none⟩) f.len c] ∧ ∀ j u, (ndC a1 (.slice A1 q.len c1))[j]? = some u → w'.cell? ⟨b, p + i * 6 + j, none⟩ = some u)) (fun _ _ => trivial) _ _ _ _ ?_
  replace hS := And.intro HX4.out HC4.out
  refine wpAnyH_take (i := 0) (oi := ?o3_0_1) (v := ?v3_0_1) ?i3_0_1 (by kernel_rfl) (by kernel_rfl) (by kernel_rfl) (fun _ _ _ h => h) (Or.inl ⟨?g3_0_1, ?y3_0_1⟩) hS ?_
  case i3_0_1 => simp only [List.getElem?_toArray, List.getElem?_cons_succ, List.getElem?_cons_zero]; rfl
  case g3_0_1 => rfl
  case y3_0_1 => (intro w hSw; have q0 := (hSw.1.cell 0).trans rfl; have q1 := (hSw.1.cell 1).trans rfl; have q2 := (hSw.1.cell 2).trans rfl; have q3 := (hSw.1.cell 3).trans rfl; have q4 := (hSw.1.cell 4).trans rfl; have q5 := (hSw.1.cell 5).trans rfl; (go_simp <;> with_reducible rfl))
  (try simp only [Act.put, List.setIfInBounds_toArray, List.set_cons_zero, List.set_cons_succ])
  refine wpAnyH_take (i := 1) (oi := ?o3_1_2) (v := ?v3_1_2) ?i3_1_2 (by kernel_rfl) (by kernel_rfl) (by kernel_rfl) (fun _ _ _ h => h) (Or.inl ⟨?g3_1_2, ?y3_1_2⟩) hS ?_
  case i3_1_2 => simp only [List.getElem?_toArray, List.getElem?_cons_succ, List.getElem?_cons_zero]; rfl
  case g3_1_2 => rfl
  case y3_1_2 => (intro w hSw; (go_simp <;> with_reducible rfl))
  (try simp only [Act.put, List.setIfInBounds_toArray, List.set_cons_zero, List.set_cons_succ])
  refine wpAnyH_take (i := 2) (oi := ?o3_2_3) (v := ?v3_2_3) ?i3_2_3 (by kernel_rfl) (by kernel_rfl) (by kernel_rfl) (fun _ _ _ h => h) (Or.inl ⟨?g3_2_3, ?y3_2_3⟩) hS ?_
  case i3_2_3 => simp only [List.getElem?_toArray, List.getElem?_cons_succ, List.getElem?_cons_zero]; rfl
  case g3_2_3 => rfl
  case y3_2_3 => (intro w hSw; (go_simp <;> with_reducible rfl))
  (try simp only [Act.put, List.setIfInBounds_toArray, List.set_cons_zero, List.set_cons_succ])
  refine wpAnyH_take (i := 3) (oi := ?o3_3_4) (v := ?v3_3_4) ?i3_3_4 (by kernel_rfl) (by kernel_rfl) (by kernel_rfl) (fun _ _ _ h => h) (Or.inl ⟨?g3_3_4, ?y3_3_4⟩) hS ?_
  case i3_3_4 => simp only [List.getElem?_toArray, List.getElem?_cons_succ, List.getElem?_cons_zero]; rfl
  case g3_3_4 => rfl
  case y3_3_4 => (intro w hSw; have q5 := (hSw.1.cell 5).trans rfl; (go_simp <;> with_reducible rfl))
  (try simp only [Act.put, List.setIfInBounds_toArray, List.set_cons_zero, List.set_cons_succ])
  refine wpAnyH_take (i := 4) (oi := ?o3_4_5) (v := ?v3_4_5) ?i3_4_5 (by kernel_rfl) (by kernel_rfl) (by kernel_rfl) (fun _ _ _ h => h) (Or.inl ⟨?g3_4_5, ?y3_4_5⟩) hS ?_
  case i3_4_5 => simp only [List.getElem?_toArray, List.getElem?_cons_succ, List.getElem?_cons_zero]; rfl
  case g3_4_5 => rfl
  case y3_4_5 => (intro w hSw; (go_simp <;> with_reducible rfl))
  (try simp only [Act.put, List.setIfInBounds_toArray, List.set_cons_zero, List.set_cons_succ])
  refine wpAnyH_take (i := 5) (oi := ?o3_5_6) (v := ?v3_5_6) ?i3_5_6 (by kernel_rfl) (by kernel_rfl) (by kernel_rfl) (fun _ _ _ h => h) (Or.inl ⟨?g3_5_6, ?y3_5_6⟩) hS ?_
  case i3_5_6 => simp only [List.getElem?_toArray, List.getElem?_cons_succ, List.getElem?_cons_zero]; rfl
  case g3_5_6 => rfl
  case y3_5_6 => (intro w hSw; (go_simp <;> with_reducible rfl))
  (try simp only [Act.put, List.setIfInBounds_toArray, List.set_cons_zero, List.set_cons_succ])
  refine wpAnyH_take (i := 6) (oi := ?o3_6_7) (v := ?v3_6_7) ?i3_6_7 (by kernel_rfl) (by kernel_rfl) (by kernel_rfl) (fun _ _ _ h => h) (Or.inl ⟨?g3_6_7, ?y3_6_7⟩) hS ?_
  case i3_6_7 => simp only [List.getElem?_toArray, List.getElem?_cons_succ, List.getElem?_cons_zero]; rfl
  case g3_6_7 => rfl
  case y3_6_7 => (intro w hSw; have u0 : w.cell? ⟨b, p + i * 6, none⟩ = _ := hSw.2 0 _ rfl; have u1 := hSw.2 1 _ rfl; have u2 := hSw.2 2 _ rfl; have u3 := hSw.2 3 _ rfl; have u4 := hSw.2 4 _ rfl; have u5 := hSw.2 5 _ rfl; (go_simp <;> with_reducible rfl))
  (try simp only [Act.put, List.setIfInBounds_toArray, List.set_cons_zero, List.set_cons_succ])
  refine wpAnyH_take (i := 7) (oi := ?o3_7_8) (v := ?v3_7_8) ?i3_7_8 (by kernel_rfl) (by kernel_rfl) (by kernel_rfl) (fun _ _ _ h => h) (Or.inl ⟨?g3_7_8, ?y3_7_8⟩) hS ?_
  case i3_7_8 => simp only [List.getElem?_toArray, List.getElem?_cons_succ, List.getElem?_cons_zero]; rfl
  case g3_7_8 => rfl
  case y3_7_8 => (intro w hSw; (go_simp <;> with_reducible rfl))
  (try simp only [Act.put, List.setIfInBounds_toArray, List.set_cons_zero, List.set_cons_succ])
  refine wpAnyH_take (i := 8) (oi := ?o3_8_9) (v := ?v3_8_9) ?i3_8_9 (by kernel_rfl) (by kernel_rfl) (by kernel_rfl) (fun _ _ _ h => h) (Or.inl ⟨?g3_8_9, ?y3_8_9⟩) hS ?_
  case i3_8_9 => simp only [List.getElem?_toArray, List.getElem?_cons_succ, List.getElem?_cons_zero]; rfl
  case g3_8_9 => rfl
  case y3_8_9 => (intro w hSw; (go_simp <;> with_reducible rfl))
  (try simp only [Act.put, List.setIfInBounds_toArray, List.set_cons_zero, List.set_cons_succ])
  refine wpAnyH_ready (rs := [9]) (by kernel_rfl) (by simp) ?_
  refine (AllReadyH.cons (o := ?or3_10_9) ?ir3_10_9 (fun K hK => ?str3_10_9) AllReadyH.nil)
  case ir3_10_9 => simp only [List.getElem?_toArray, List.getElem?_cons_succ, List.getElem?_cons_zero]; rfl
  rw [if_pos (by rfl)]
  go_simp
  refine HI1.out.mono ?_
  intro r w6 hr
  obtain ⟨A6, c6, rfl, hl6, hb6⟩ := hr.flat
  have HL6 := Lib.hid hl6
  have HB6 := Lib.hid (HB3.out.drew.trans (hb6.mono HB3.out.drew.size))
  have HX6 := Lib.hid (HX4.out.below hb6 HX4.out.lt)
  have HZ6 := Lib.hid (HZ4.out.below hb6 HZ4.out.lt)
  have HC6 : Hid (∀ j u, (ndC a1 (.slice A1 q.len c1))[j]? = some u → w6.cell? ⟨b, p + i * 6 + j, none⟩ = some u) := Lib.hid (fun j u hu => (hb6.cell (p := ⟨b, p + i * 6 + j, none⟩) (Nat.lt_of_lt_of_le HBL.out HB3.out.drew.size)).trans (HC4.out j u hu))
  have HW6 := Lib.hid hb6
  clear hb6 hr hl6
  go_wp2_with fail
  refine hK.out _ _ ?sr3_10_9 (fun hS => ?_)
  case sr3_10_9 => (exact ⟨HX6.out, HC6.out⟩)
  clear hK K
  (try simp only [Act.put, List.setIfInBounds_toArray, List.set_cons_zero, List.set_cons_succ])
  refine wpAnyH_ready (rs := [10]) (by kernel_rfl) (by simp) ?_
  refine (AllReadyH.cons (o := ?or3_11_10) ?ir3_11_10 (fun K hK => ?str3_11_10) AllReadyH.nil)
  case ir3_11_10 => simp only [List.getElem?_toArray, List.getElem?_cons_succ, List.getElem?_cons_zero]; rfl
  rw [if_pos (by rfl)]
  go_simp
  refine hK.out _ _ ?sr3_11_10 (fun hS => ?_)
  case sr3_11_10 => (exact ⟨HX6.out.alloc _, fun j u hu => (Below.cell (B := w6.heap.size) ((Below.refl w6.heap.size w6).alloc (Nat.le_refl _) (.cells #[.string (txt za.name), .string (txt za.key), .int .i64 za.kind, .int .u64 (za.num : Int), .string (txt za.text), .slice A6 zf.len c6] 27)) (p := ⟨b, p + i * 6 + j, none⟩) (Nat.lt_of_lt_of_le HBL.out HB6.out.size)).trans (HC6.out j u hu)⟩)
  clear hK K
  (try simp only [Act.put, List.setIfInBounds_toArray, List.set_cons_zero, List.set_cons_succ])
  have hal : Below w6.heap.size w6 (w6.alloc (.cells #[.string (txt za.name), .string (txt za.key), .int .i64 za.kind, .int .u64 (za.num : Int), .string (txt za.text), .slice A6 zf.len c6] 27)) := (Below.refl _ _).alloc (Nat.le_refl _) _
  have HWC : Hid (Calls Try.prog 49 #[.agg #[.string (txt a.name), .string (txt a.key), .int .i64 a.kind, .int .u64 (a.num : Int), .string (txt a.text), .slice (some ⟨b, p, none⟩) f.len c], .int .i64 (i : Int), .int .i64 1, .slice (some ⟨w6.heap.size, 0, none⟩) 1 1] (w6.alloc (.cells #[.string (txt za.name), .string (txt za.key), .int .i64 za.kind, .int .u64 (za.num : Int), .string (txt za.text), .slice A6 zf.len c6] 27)) (WithP d (w.heap.size + 2) a Rf (w6.alloc (.cells #[.string (txt za.name), .string (txt za.key), .int .i64 za.kind, .int .u64 (za.num : Int), .string (txt za.text), .slice A6 zf.len c6] 27)))) := Lib.hid (by
    have hz3 : w.heap.size + 1 < w3.heap.size := HZ3.out.lt
    have hz6 : w3.heap.size ≤ w6.heap.size := HW6.out.size
    have hzs : (w6.alloc (.cells #[.string (txt za.name), .string (txt za.key), .int .i64 za.kind, .int .u64 (za.num : Int), .string (txt za.text), .slice A6 zf.len c6] 27)).heap.size = w6.heap.size + 1 := by simp
    have hdd := HD.out
    rw [← HRF.out]
    exact rwith_any d (w.heap.size + 2) a f (oneF (za, zf)) (some ⟨b, p, none⟩) f.len c i 1 (some ⟨w6.heap.size, 0, none⟩) 1 1 (w6.alloc (.cells #[.string (txt za.name), .string (txt za.key), .int .i64 za.kind, .int .u64 (za.num : Int), .string (txt za.text), .slice A6 zf.len c6] 27)) (by omega) (by omega)
      (FrV.mono stay_nd (HK.out.under (HB6.out.trans (hal.mono HB6.out.size)) HD.out (Nat.le_refl _)) (fun g hg => .inl hg) (fun _ h => h))
      (row_one (FrN.kept stay_nd HL6.out (fun g hg => Below.heap_alloc w6 _ g (by rcases hg with h | h <;> omega)) (fun g hg => by rcases hg with h | h; exact .inl h; exact .inr ⟨by have : w3.drew.heap.size = w3.heap.size := rfl; omega, by omega⟩) (fun _ h => h.elim) (fun _ h => h)) (.inr ⟨by omega, by omega⟩) (Blk.new w6 27 #[.string (txt za.name), .string (txt za.key), .int .i64 za.kind, .int .u64 (za.num : Int), .string (txt za.text), .slice A6 zf.len c6]))
      (by have := HLN.out; omega) (by have := HLN.out; omega) (by omega))
  have HALL := Lib.hid hal
  clear hal
  refine wpAnyH_ready (rs := [11]) (by kernel_rfl) (by simp) ?_
  refine (AllReadyH.cons (o := ?or3_12_11) ?ir3_12_11 (fun K hK => ?str3_12_11) AllReadyH.nil)
  case ir3_12_11 => simp only [List.getElem?_toArray, List.getElem?_cons_succ, List.getElem?_cons_zero]; rfl
  rw [if_pos (by rfl)]
  go_simp
  refine HWC.out.mono ?_
  rintro r w7 ⟨A7, c7, rfl, hv7, hb7⟩
  have HV7 := Lib.hid hv7
  have HB7 := Lib.hid ((HB6.out.trans (HALL.out.mono HB6.out.size)).trans (hb7.mono (by have h1 := HB6.out.size; simp; omega)))
  have HX7 := Lib.hid ((HX6.out.alloc (.cells #[.string (txt za.name), .string (txt za.key), .int .i64 za.kind, .int .u64 (za.num : Int), .string (txt za.text), .slice A6 zf.len c6] 27)).below hb7 (HX6.out.alloc (.cells #[.string (txt za.name), .string (txt za.key), .int .i64 za.kind, .int .u64 (za.num : Int), .string (txt za.text), .slice A6 zf.len c6] 27)).lt)
  have HZ7 := Lib.hid ((HZ6.out.alloc (.cells #[.string (txt za.name), .string (txt za.key), .int .i64 za.kind, .int .u64 (za.num : Int), .string (txt za.text), .slice A6 zf.len c6] 27)).below hb7 (HZ6.out.alloc (.cells #[.string (txt za.name), .string (txt za.key), .int .i64 za.kind, .int .u64 (za.num : Int), .string (txt za.text), .slice A6 zf.len c6] 27)).lt)
  have HC7 : Hid (∀ j u, (ndC a1 (.slice A1 q.len c1))[j]? = some u → w7.cell? ⟨b, p + i * 6 + j, none⟩ = some u) := Lib.hid (fun j u hu => (HB7.out.cell (p := ⟨b, p + i * 6 + j, none⟩) HBL.out).trans (HC.out j u hu))
  clear hv7 hb7
  go_wp2_with fail
  refine hK.out _ _ ?sr3_12_11 (fun hS => ?_)
  case sr3_12_11 => (exact ⟨HX7.out, HC7.out⟩)
  clear hK K
  (try simp only [Act.put, List.setIfInBounds_toArray, List.set_cons_zero, List.set_cons_succ])
  refine wpAnyH_ready (rs := [12]) (by kernel_rfl) (by simp) ?_
  refine (AllReadyH.cons (o := ?or3_13_12) ?ir3_13_12 (fun K hK => ?str3_13_12) AllReadyH.nil)
  case ir3_13_12 => simp only [List.getElem?_toArray, List.getElem?_cons_succ, List.getElem?_cons_zero]; rfl
  rw [if_pos (by rfl)]
  have fz0 : (w7).frozen? ⟨w.heap.size + 1, 0, none⟩ = false := HZ7.out.frozen 0
  have fq0 := (HZ7.out.cell 0).trans rfl
  have fz1 : (w7).frozen? ⟨w.heap.size + 1, 1, none⟩ = false := HZ7.out.frozen 1
  have fq1 := (HZ7.out.cell 1).trans rfl
  have fz2 : (w7).frozen? ⟨w.heap.size + 1, 2, none⟩ = false := HZ7.out.frozen 2
  have fq2 := (HZ7.out.cell 2).trans rfl
  have fz3 : (w7).frozen? ⟨w.heap.size + 1, 3, none⟩ = false := HZ7.out.frozen 3
  have fq3 := (HZ7.out.cell 3).trans rfl
  have fz4 : (w7).frozen? ⟨w.heap.size + 1, 4, none⟩ = false := HZ7.out.frozen 4
  have fq4 := (HZ7.out.cell 4).trans rfl
  have fz5 : (w7).frozen? ⟨w.heap.size + 1, 5, none⟩ = false := HZ7.out.frozen 5
  have fq5 := (HZ7.out.cell 5).trans rfl
  go_simp
  refine hK.out _ _ ?sr3_13_12 (fun hS => ?_)
  case sr3_13_12 => (exact ⟨(set6_other (w := w7) (b := w.heap.size + 1) (by omega)).trans HX7.out, fun j u hu => (World.cell?_of_block (set6_other (w := w7) (b := w.heap.size + 1) (by have := HBL.out; show b ≠ _; omega))).trans (HC7.out j u hu)⟩)
  clear hK K
  (try simp only [Act.put, List.setIfInBounds_toArray, List.set_cons_zero, List.set_cons_succ])
  refine wpAnyH_done (by kernel_rfl) ?_ _
  refine NoPanic.normal ?_
  clear hS
  go_wp2
  have HBZ : Hid (Below w.heap.size w (set6 w7 (w.heap.size + 1) (.string (txt a.name)) (.string (txt a.key)) (.int .i64 a.kind) (.int .u64 (a.num : Int)) (.string (txt a.text)) (.slice A7 Rf.len c7))) := Lib.hid (HB7.out.trans (set6_below (by omega)))
  have HLZ : Hid (LieP d w.heap.size (set6 w7 (w.heap.size + 1) (.string (txt a.name)) (.string (txt a.key)) (.int .i64 a.kind) (.int .u64 (a.num : Int)) (.string (txt a.text)) (.slice A7 Rf.len c7)) (ndC a (.slice A7 Rf.len c7)) (a, Rf)) := Lib.hid (LieP.after (B := w.heap.size + 2) ((LieP.make (b := d) (B := w.heap.size + 2) HV7.out).set6 (by have := HD.out; omega) (by omega) _ _ _ _ _ _) (by omega))
  refine bodyPost_ret (results_cell_row rfl _ _ (w.heap.size + 1) 27 _ (0, 0) _ rfl (HZ7.out.set6 _ _ _ _ _ _) Try.underlying27 rfl (by kernel_rfl)) rfl ?_
  exact ⟨_, rfl, HLZ.out, HBZ.out⟩
theorem rcut_any (d : Nat) : ∀ (l : List Stp) (x z : Nd) (cs : List Value) (v : Value) (w : World), d ≤ w.heap.size → LieB d w cs x → WayV w.heap.size w v l → Few9 x → l ≠ [] → getX x l = some z →
    Calls Try.prog 41 #[.agg cs.toArray, v] w (PTreP1 d (cutX x l) w) := by
  intro l
  induction l with
  | nil => intro x z cs v w _ _ _ _ h; exact absurd rfl h
  | cons s l ih =>
    intro x z cs v w hd hx hv hfew _ hz
    obtain ⟨A, c, rfl, hk⟩ := hx.shape
    obtain ⟨a, f⟩ := x
    obtain ⟨B, m, rfl⟩ := hv.shape
    obtain ⟨g, o, rfl, hN, hNm, hg, hs1, hs2⟩ := hv.at (j := 0) (s := s) rfl
    have hl : f.len ≤ 1000000 := Nat.le_trans (Fr.len_size f) hfew
    rw [getX.eq_def] at hz
    simp only at hz
    cases h1 : gtF s f with
    | none => rw [h1] at hz; cases hz
    | some u =>
      rw [h1] at hz
      obtain ⟨i, hfi, hgi⟩ := getF_find h1
      cases l with
      | nil =>
        rw [cutX_one]
        exact rcut_one d a f A c s g o _ m i (delF s f) w hd hx hl hv hfi (Fr.get_lt hgi) (with_del hfi)
      | cons t l =>
        rw [cut_more]
        simp only
        rw [h1]
        obtain ⟨a1, q⟩ := u
        exact rcut_deep d a f A c s t l g o _ m i a1 q (cutX (a1, q) (t :: l)).1 (cutX (a1, q) (t :: l)).2 _ w hd hx hl hv hfi hgi (with_rep hfi)
          (fun cs v W h3 h4 h5 => ih (a1, q) z cs v W h3 h4 h5 (by have h4 : q.size < f.size := Fr.size_get hgi; have : f.size ≤ 1000000 := hfew; show q.size ≤ 1000000; omega) (by simp) hz)
end Go.Proofs.Ytgipnemcmiohlaa


namespace Go.Proofs.Ytgipnemcmiohlaa
open Go.RowKit
set_option linter.unusedSimpArgs false
set_option linter.unusedVariables false
set_option maxRecDepth 100000 in
set_option maxHeartbeats 4000000 in
theorem rCut_none (d : Nat) (a : NdD) (f : NdF) (A : Option Addr) (c : Nat) (B : Option Addr) (N m : Nat) (pa : NdD) (pf : NdF) (w : World) (hd : d ≤ w.heap.size) (hx : LieB d w (ndC a (.slice A f.len c)) (a, f)) 
    (hG : ∀ W, Below w.heap.size w W → Calls Try.prog 21 #[.agg #[.string (txt a.name), .string (txt a.key), .int .i64 a.kind, .int .u64 (a.num : Int), .string (txt a.text), .slice A f.len c], .slice B N m] W (PTreP d (pa, pf) (.bool false) W)) :
    Calls Try.prog 25 #[.agg #[.string (txt a.name), .string (txt a.key), .int .i64 a.kind, .int .u64 (a.num : Int), .string (txt a.text), .slice A f.len c], .slice B N m] w (PTreP d noN (.int .i64 30) w) := by
  obtain ⟨h1, h2, h3, h4⟩ := get_boxes a f A c w (hx.keep (fun _ _ => rfl) hd)
  have HX := Lib.hid h1
  have HZ := Lib.hid h2
  have HB := Lib.hid h3
  have HD := Lib.hid hd
  have HGT := Lib.hid (hG ((w.alloc (.cells #[.string (txt a.name), .string (txt a.key), .int .i64 a.kind, .int .u64 (a.num : Int), .string (txt a.text), .slice A f.len c] 27)).alloc (.cells #[.string ⟨#[]⟩, .string ⟨#[]⟩, .int .i64 0, .int .u64 0, .string ⟨#[]⟩, .slice none 0 0] 27)) h3)
  skip
  clear h1 h2 h3 h4 hx hd hG
  have q0 := (HX.out.cell 0).trans rfl
  have q1 := (HX.out.cell 1).trans rfl
  have q2 := (HX.out.cell 2).trans rfl
  have q3 := (HX.out.cell 3).trans rfl
  have q4 := (HX.out.cell 4).trans rfl
  have q5 := (HX.out.cell 5).trans rfl
  go_enter Try.func25, Try.ntmps25
  go_wp2_with fail
  refine HGT.out.mono ?_
  intro r w6 hr
  obtain ⟨A6, c6, rfl, hl6, hb6⟩ := hr.flat
  have HX7 := Lib.hid ((HX.out.below hb6 HX.out.lt).alloc (.cells #[.string (txt pa.name), .string (txt pa.key), .int .i64 pa.kind, .int .u64 (pa.num : Int), .string (txt pa.text), .slice A6 pf.len c6] 27))
  have HZ7 := Lib.hid ((HZ.out.below hb6 HZ.out.lt).alloc (.cells #[.string (txt pa.name), .string (txt pa.key), .int .i64 pa.kind, .int .u64 (pa.num : Int), .string (txt pa.text), .slice A6 pf.len c6] 27))
  have HB6 := HB.out.trans (hb6.mono HB.out.size)
  have HB7 := Lib.hid (HB6.alloc HB6.size (.cells #[.string (txt pa.name), .string (txt pa.key), .int .i64 pa.kind, .int .u64 (pa.num : Int), .string (txt pa.text), .slice A6 pf.len c6] 27))
  clear hb6 hr hl6 q0 q1 q2 q3 q4 q5 HB6
  have fz0 : ((w6.alloc (.cells #[.string (txt pa.name), .string (txt pa.key), .int .i64 pa.kind, .int .u64 (pa.num : Int), .string (txt pa.text), .slice A6 pf.len c6] 27))).frozen? ⟨w.heap.size + 1, 0, none⟩ = false := HZ7.out.frozen 0
  have fq0 := (HZ7.out.cell 0).trans rfl
  have fz1 : ((w6.alloc (.cells #[.string (txt pa.name), .string (txt pa.key), .int .i64 pa.kind, .int .u64 (pa.num : Int), .string (txt pa.text), .slice A6 pf.len c6] 27))).frozen? ⟨w.heap.size + 1, 1, none⟩ = false := HZ7.out.frozen 1
  have fq1 := (HZ7.out.cell 1).trans rfl
  have fz2 : ((w6.alloc (.cells #[.string (txt pa.name), .string (txt pa.key), .int .i64 pa.kind, .int .u64 (pa.num : Int), .string (txt pa.text), .slice A6 pf.len c6] 27))).frozen? ⟨w.heap.size + 1, 2, none⟩ = false := HZ7.out.frozen 2
  have fq2 := (HZ7.out.cell 2).trans rfl
  have fz3 : ((w6.alloc (.cells #[.string (txt pa.name), .string (txt pa.key), .int .i64 pa.kind, .int .u64 (pa.num : Int), .string (txt pa.text), .slice A6 pf.len c6] 27))).frozen? ⟨w.heap.size + 1, 3, none⟩ = false := HZ7.out.frozen 3
  have fq3 := (HZ7.out.cell 3).trans rfl
  have fz4 : ((w6.alloc (.cells #[.string (txt pa.name), .string (txt pa.key), .int .i64 pa.kind, .int .u64 (pa.num : Int), .string (txt pa.text), .slice A6 pf.len c6] 27))).frozen? ⟨w.heap.size + 1, 4, none⟩ = false := HZ7.out.frozen 4
  have fq4 := (HZ7.out.cell 4).trans rfl
  have fz5 : ((w6.alloc (.cells #[.string (txt pa.name), .string (txt pa.key), .int .i64 pa.kind, .int .u64 (pa.num : Int), .string (txt pa.text), .slice A6 pf.len c6] 27))).frozen? ⟨w.heap.size + 1, 5, none⟩ = false := HZ7.out.frozen 5
  have fq5 := (HZ7.out.cell 5).trans rfl
  go_wp2
  refine bodyPost_ret (res_ct9 rfl _ _ (w.heap.size + 1) 27 _ (0, 0) _ rfl (HZ7.out.set6 _ _ _ _ _ _) Try.underlying27 rfl (by kernel_rfl)) rfl ?_
  exact ⟨_, rfl, (LieB.zero _ _).p _, HB7.out.trans (set6_below (by omega))⟩
set_option maxRecDepth 100000 in
set_option maxHeartbeats 4000000 in
theorem rCut_nil (d : Nat) (a : NdD) (f : NdF) (A : Option Addr) (c : Nat) (B : Option Addr) (N m : Nat) (pa : NdD) (pf : NdF) (w : World) (hd : d ≤ w.heap.size) (hx : LieB d w (ndC a (.slice A f.len c)) (a, f)) (hN : N = 0)
    (hG : ∀ W, Below w.heap.size w W → Calls Try.prog 21 #[.agg #[.string (txt a.name), .string (txt a.key), .int .i64 a.kind, .int .u64 (a.num : Int), .string (txt a.text), .slice A f.len c], .slice B N m] W (PTreP d (pa, pf) (.bool true) W)) :
    Calls Try.prog 25 #[.agg #[.string (txt a.name), .string (txt a.key), .int .i64 a.kind, .int .u64 (a.num : Int), .string (txt a.text), .slice A f.len c], .slice B N m] w (PTreP d noN (.int .i64 30) w) := by
  obtain ⟨h1, h2, h3, h4⟩ := get_boxes a f A c w (hx.keep (fun _ _ => rfl) hd)
  have HX := Lib.hid h1
  have HZ := Lib.hid h2
  have HB := Lib.hid h3
  have HD := Lib.hid hd
  have HGT := Lib.hid (hG ((w.alloc (.cells #[.string (txt a.name), .string (txt a.key), .int .i64 a.kind, .int .u64 (a.num : Int), .string (txt a.text), .slice A f.len c] 27)).alloc (.cells #[.string ⟨#[]⟩, .string ⟨#[]⟩, .int .i64 0, .int .u64 0, .string ⟨#[]⟩, .slice none 0 0] 27)) h3)
  subst hN
  clear h1 h2 h3 h4 hx hd hG
  have q0 := (HX.out.cell 0).trans rfl
  have q1 := (HX.out.cell 1).trans rfl
  have q2 := (HX.out.cell 2).trans rfl
  have q3 := (HX.out.cell 3).trans rfl
  have q4 := (HX.out.cell 4).trans rfl
  have q5 := (HX.out.cell 5).trans rfl
  go_enter Try.func25, Try.ntmps25
  go_wp2_with fail
  refine HGT.out.mono ?_
  intro r w6 hr
  obtain ⟨A6, c6, rfl, hl6, hb6⟩ := hr.flat
  have HX7 := Lib.hid ((HX.out.below hb6 HX.out.lt).alloc (.cells #[.string (txt pa.name), .string (txt pa.key), .int .i64 pa.kind, .int .u64 (pa.num : Int), .string (txt pa.text), .slice A6 pf.len c6] 27))
  have HZ7 := Lib.hid ((HZ.out.below hb6 HZ.out.lt).alloc (.cells #[.string (txt pa.name), .string (txt pa.key), .int .i64 pa.kind, .int .u64 (pa.num : Int), .string (txt pa.text), .slice A6 pf.len c6] 27))
  have HB6 := HB.out.trans (hb6.mono HB.out.size)
  have HB7 := Lib.hid (HB6.alloc HB6.size (.cells #[.string (txt pa.name), .string (txt pa.key), .int .i64 pa.kind, .int .u64 (pa.num : Int), .string (txt pa.text), .slice A6 pf.len c6] 27))
  clear hb6 hr hl6 q0 q1 q2 q3 q4 q5 HB6
  have fz0 : ((w6.alloc (.cells #[.string (txt pa.name), .string (txt pa.key), .int .i64 pa.kind, .int .u64 (pa.num : Int), .string (txt pa.text), .slice A6 pf.len c6] 27))).frozen? ⟨w.heap.size + 1, 0, none⟩ = false := HZ7.out.frozen 0
  have fq0 := (HZ7.out.cell 0).trans rfl
  have fz1 : ((w6.alloc (.cells #[.string (txt pa.name), .string (txt pa.key), .int .i64 pa.kind, .int .u64 (pa.num : Int), .string (txt pa.text), .slice A6 pf.len c6] 27))).frozen? ⟨w.heap.size + 1, 1, none⟩ = false := HZ7.out.frozen 1
  have fq1 := (HZ7.out.cell 1).trans rfl
  have fz2 : ((w6.alloc (.cells #[.string (txt pa.name), .string (txt pa.key), .int .i64 pa.kind, .int .u64 (pa.num : Int), .string (txt pa.text), .slice A6 pf.len c6] 27))).frozen? ⟨w.heap.size + 1, 2, none⟩ = false := HZ7.out.frozen 2
  have fq2 := (HZ7.out.cell 2).trans rfl
  have fz3 : ((w6.alloc (.cells #[.string (txt pa.name), .string (txt pa.key), .int .i64 pa.kind, .int .u64 (pa.num : Int), .string (txt pa.text), .slice A6 pf.len c6] 27))).frozen? ⟨w.heap.size + 1, 3, none⟩ = false := HZ7.out.frozen 3
  have fq3 := (HZ7.out.cell 3).trans rfl
  have fz4 : ((w6.alloc (.cells #[.string (txt pa.name), .string (txt pa.key), .int .i64 pa.kind, .int .u64 (pa.num : Int), .string (txt pa.text), .slice A6 pf.len c6] 27))).frozen? ⟨w.heap.size + 1, 4, none⟩ = false := HZ7.out.frozen 4
  have fq4 := (HZ7.out.cell 4).trans rfl
  have fz5 : ((w6.alloc (.cells #[.string (txt pa.name), .string (txt pa.key), .int .i64 pa.kind, .int .u64 (pa.num : Int), .string (txt pa.text), .slice A6 pf.len c6] 27))).frozen? ⟨w.heap.size + 1, 5, none⟩ = false := HZ7.out.frozen 5
  have fq5 := (HZ7.out.cell 5).trans rfl
  go_wp2
  refine bodyPost_ret (res_ct9 rfl _ _ (w.heap.size + 1) 27 _ (0, 0) _ rfl (HZ7.out.set6 _ _ _ _ _ _) Try.underlying27 rfl (by kernel_rfl)) rfl ?_
  exact ⟨_, rfl, (LieB.zero _ _).p _, HB7.out.trans (set6_below (by omega))⟩
set_option maxRecDepth 100000 in
set_option maxHeartbeats 4000000 in
theorem rCut_ok (d : Nat) (a : NdD) (f : NdF) (A : Option Addr) (c : Nat) (B : Option Addr) (N m : Nat) (pa : NdD) (pf : NdF) (w : World) (hd : d ≤ w.heap.size) (hx : LieB d w (ndC a (.slice A f.len c)) (a, f)) (hN : 0 < N) (ra : NdD) (rf : NdF) (hS : ∀ W, Below w.heap.size w W → Calls Try.prog 41 #[.agg #[.string (txt a.name), .string (txt a.key), .int .i64 a.kind, .int .u64 (a.num : Int), .string (txt a.text), .slice A f.len c], .slice B N m] W (PTreP1 d (ra, rf) W))
    (hG : ∀ W, Below w.heap.size w W → Calls Try.prog 21 #[.agg #[.string (txt a.name), .string (txt a.key), .int .i64 a.kind, .int .u64 (a.num : Int), .string (txt a.text), .slice A f.len c], .slice B N m] W (PTreP d (pa, pf) (.bool true) W)) :
    Calls Try.prog 25 #[.agg #[.string (txt a.name), .string (txt a.key), .int .i64 a.kind, .int .u64 (a.num : Int), .string (txt a.text), .slice A f.len c], .slice B N m] w (PTreP d (ra, rf) (.int .i64 0) w) := by
  obtain ⟨h1, h2, h3, h4⟩ := get_boxes a f A c w (hx.keep (fun _ _ => rfl) hd)
  have HX := Lib.hid h1
  have HZ := Lib.hid h2
  have HB := Lib.hid h3
  have HD := Lib.hid hd
  have HGT := Lib.hid (hG ((w.alloc (.cells #[.string (txt a.name), .string (txt a.key), .int .i64 a.kind, .int .u64 (a.num : Int), .string (txt a.text), .slice A f.len c] 27)).alloc (.cells #[.string ⟨#[]⟩, .string ⟨#[]⟩, .int .i64 0, .int .u64 0, .string ⟨#[]⟩, .slice none 0 0] 27)) h3)
  have HST := Lib.hid hS
  have n1 : ((N : Int) == 0) = false := by rw [beq_eq_false_iff_ne]; omega
  have n2 : (N == 0) = false := by rw [beq_eq_false_iff_ne]; omega
  clear hS hN
  clear h1 h2 h3 h4 hx hd hG
  have q0 := (HX.out.cell 0).trans rfl
  have q1 := (HX.out.cell 1).trans rfl
  have q2 := (HX.out.cell 2).trans rfl
  have q3 := (HX.out.cell 3).trans rfl
  have q4 := (HX.out.cell 4).trans rfl
  have q5 := (HX.out.cell 5).trans rfl
  go_enter Try.func25, Try.ntmps25
  go_wp2_with fail
  refine HGT.out.mono ?_
  intro r w6 hr
  obtain ⟨A6, c6, rfl, hl6, hb6⟩ := hr.flat
  have HX7 := Lib.hid ((HX.out.below hb6 HX.out.lt).alloc (.cells #[.string (txt pa.name), .string (txt pa.key), .int .i64 pa.kind, .int .u64 (pa.num : Int), .string (txt pa.text), .slice A6 pf.len c6] 27))
  have HZ7 := Lib.hid ((HZ.out.below hb6 HZ.out.lt).alloc (.cells #[.string (txt pa.name), .string (txt pa.key), .int .i64 pa.kind, .int .u64 (pa.num : Int), .string (txt pa.text), .slice A6 pf.len c6] 27))
  have HB6 := HB.out.trans (hb6.mono HB.out.size)
  have HB7 := Lib.hid (HB6.alloc HB6.size (.cells #[.string (txt pa.name), .string (txt pa.key), .int .i64 pa.kind, .int .u64 (pa.num : Int), .string (txt pa.text), .slice A6 pf.len c6] 27))
  clear hb6 hr hl6 q0 q1 q2 q3 q4 q5 HB6
  have q0 := (HX7.out.cell 0).trans rfl
  have q1 := (HX7.out.cell 1).trans rfl
  have q2 := (HX7.out.cell 2).trans rfl
  have q3 := (HX7.out.cell 3).trans rfl
  have q4 := (HX7.out.cell 4).trans rfl
  have q5 := (HX7.out.cell 5).trans rfl
  go_wp2_with fail
  refine (HST.out (w6.alloc (.cells #[.string (txt pa.name), .string (txt pa.key), .int .i64 pa.kind, .int .u64 (pa.num : Int), .string (txt pa.text), .slice A6 pf.len c6] 27)) HB7.out).mono ?_
  intro r w8 hr
  obtain ⟨A8, c8, rfl, hl8, hb8⟩ := hr.flat
  have HL8 := Lib.hid hl8
  have HB8 := Lib.hid (HB7.out.trans (hb8.mono HB7.out.size))
  have HZ8 := Lib.hid (HZ7.out.below hb8 HZ7.out.lt)
  have HSZ := Lib.hid HZ7.out.lt
  clear hb8 hr hl8 q0 q1 q2 q3 q4 q5
  have fz0 : (w8).frozen? ⟨w.heap.size + 1, 0, none⟩ = false := HZ8.out.frozen 0
  have fq0 := (HZ8.out.cell 0).trans rfl
  have fz1 : (w8).frozen? ⟨w.heap.size + 1, 1, none⟩ = false := HZ8.out.frozen 1
  have fq1 := (HZ8.out.cell 1).trans rfl
  have fz2 : (w8).frozen? ⟨w.heap.size + 1, 2, none⟩ = false := HZ8.out.frozen 2
  have fq2 := (HZ8.out.cell 2).trans rfl
  have fz3 : (w8).frozen? ⟨w.heap.size + 1, 3, none⟩ = false := HZ8.out.frozen 3
  have fq3 := (HZ8.out.cell 3).trans rfl
  have fz4 : (w8).frozen? ⟨w.heap.size + 1, 4, none⟩ = false := HZ8.out.frozen 4
  have fq4 := (HZ8.out.cell 4).trans rfl
  have fz5 : (w8).frozen? ⟨w.heap.size + 1, 5, none⟩ = false := HZ8.out.frozen 5
  have fq5 := (HZ8.out.cell 5).trans rfl
  go_wp2
  have HBZ : Hid (Below w.heap.size w (set6 w8 (w.heap.size + 1) (.string (txt ra.name)) (.string (txt ra.key)) (.int .i64 ra.kind) (.int .u64 (ra.num : Int)) (.string (txt ra.text)) (.slice A8 rf.len c8))) := Lib.hid (HB8.out.trans (set6_below (by omega)))
  have HLZ : Hid (LieP d w.heap.size (set6 w8 (w.heap.size + 1) (.string (txt ra.name)) (.string (txt ra.key)) (.int .i64 ra.kind) (.int .u64 (ra.num : Int)) (.string (txt ra.text)) (.slice A8 rf.len c8)) (ndC ra (.slice A8 rf.len c8)) (ra, rf)) := Lib.hid ((HL8.out.set6 (by have := HD.out; omega) HSZ.out _ _ _ _ _ _).after HB7.out.size)
  refine bodyPost_ret (res_ct9 rfl _ _ (w.heap.size + 1) 27 _ (0, 0) _ rfl (HZ8.out.set6 _ _ _ _ _ _) Try.underlying27 rfl (by kernel_rfl)) rfl ?_
  exact ⟨_, rfl, HLZ.out, HBZ.out⟩
theorem rCut_any (d : Nat) (x : Nd) (l : List Stp) (cs : List Value) (v : Value) (w : World) (hd : d ≤ w.heap.size) (hx : LieB d w cs x) (hv : WayV w.heap.size w v l) (hfew : Few9 x) (hll : l.length ≤ 1000000) :
    Calls Try.prog 25 #[.agg cs.toArray, v] w (PTreP d (CutX x l).1 (.int .i64 ((CutX x l).2 : Int)) w) := by
  obtain ⟨A, c, rfl, hk⟩ := hx.shape
  obtain ⟨a, f⟩ := x
  obtain ⟨B, m, rfl⟩ := hv.shape
  have hG : ∀ W, Below w.heap.size w W → Calls Try.prog 21 #[.agg #[.string (txt a.name), .string (txt a.key), .int .i64 a.kind, .int .u64 (a.num : Int), .string (txt a.text), .slice A f.len c], .slice B l.length m] W (PTreP d ((GetX (a, f) l).1.1, (GetX (a, f) l).1.2) (.bool (GetX (a, f) l).2) W) := fun W hW =>
    rget_any d l (a, f) _ _ W (Nat.le_trans hd hW.size) (hx.under hW hd (Nat.le_refl _)) (hv.under hW (Nat.le_refl _) hW.size) hfew
  cases hp : getX (a, f) l with
  | none =>
    have hGX : GetX (a, f) l = (noN, false) := by unfold GetX; rw [hp]
    have hC : CutX (a, f) l = (noN, 30) := by unfold CutX; split <;> simp [hp]
    rw [hGX] at hG
    rw [hC]
    exact rCut_none d a f A c B l.length m _ _ w hd hx hG
  | some p =>
    have hGX : GetX (a, f) l = (p, true) := by unfold GetX; rw [hp]
    rw [hGX] at hG
    by_cases hl : l = []
    · have hC : CutX (a, f) l = (noN, 30) := by unfold CutX; rw [if_pos hl]
      rw [hC]
      exact rCut_nil d a f A c B l.length m _ _ w hd hx (by rw [hl]; rfl) hG
    · rw [CutX_is hl hp]
      exact rCut_ok d a f A c B l.length m _ _ w hd hx (by have : l.length ≠ 0 := fun h => hl (List.eq_nil_of_length_eq_zero h); omega) (cutX (a, f) l).1 (cutX (a, f) l).2
        (fun W hW => rcut_any d l (a, f) p _ _ W (Nat.le_trans hd hW.size) (hx.under hW hd (Nat.le_refl _)) (hv.under hW (Nat.le_refl _) hW.size) hfew hl hp) hG
end Go.Proofs.Ytgipnemcmiohlaa


namespace Go.Proofs.Ytgipnemcmiohlaa
open Go.RowKit
set_option linter.unusedSimpArgs false
set_option linter.unusedVariables false
section
variable {W0 w : World} (C : TreC W0) (hW : Below W0.heap.size W0 w) {a b : NdD} {f g : NdF} {A B : Option Addr} {c d : Nat}
theorem rget_q {v : Value} {l : List Stp} (hx : LieN w (ndC a (.slice A f.len c)) (a, f)) (hv : WayV w.heap.size w v l) (hf : f.size ≤ 1000000) (W : World) (h : Below w.heap.size w W) : Calls Try.prog 21 #[.agg #[.string (txt a.name), .string (txt a.key), .int .i64 a.kind, .int .u64 (a.num : Int), .string (txt a.text), .slice A f.len c], v] W (RTreP (GetX (a, f) l).1 (.bool (GetX (a, f) l).2) W) :=
  (rget_any W.heap.size l (a, f) _ v W (Nat.le_refl _) (hx.below h) (hv.below h) hf).mono fun _ _ h => h.r
theorem rset_q {v : Value} {l : List Stp} (hx : LieN w (ndC a (.slice A f.len c)) (a, f)) (hy : LieN w (ndC b (.slice B g.len d)) (b, g)) (hv : WayV w.heap.size w v l) (hf : f.size ≤ 1000000) (hl : l.length ≤ 1000000) (W : World) (h : Below w.heap.size w W) : Calls Try.prog 23 #[.agg #[.string (txt a.name), .string (txt a.key), .int .i64 a.kind, .int .u64 (a.num : Int), .string (txt a.text), .slice A f.len c], v, .agg #[.string (txt b.name), .string (txt b.key), .int .i64 b.kind, .int .u64 (b.num : Int), .string (txt b.text), .slice B g.len d]] W (RTreP (SetX (a, f) l (b, g)).1 (.int .i64 ((SetX (a, f) l (b, g)).2 : Int)) W) :=
  (rSet_any W.heap.size (a, f) (b, g) l _ _ v W (Nat.le_refl _) (hx.below h) (hy.below h) (hv.below h) hf hl).mono fun _ _ h => h.r
theorem rcut_q {v : Value} {l : List Stp} (hx : LieN w (ndC a (.slice A f.len c)) (a, f)) (hv : WayV w.heap.size w v l) (hf : f.size ≤ 1000000) (hl : l.length ≤ 1000000) (W : World) (h : Below w.heap.size w W) : Calls Try.prog 25 #[.agg #[.string (txt a.name), .string (txt a.key), .int .i64 a.kind, .int .u64 (a.num : Int), .string (txt a.text), .slice A f.len c], v] W (RTreP (CutX (a, f) l).1 (.int .i64 ((CutX (a, f) l).2 : Int)) W) :=
  (rCut_any W.heap.size (a, f) l _ v W (Nat.le_refl _) (hx.below h) (hv.below h) hf hl).mono fun _ _ h => h.r
include C hW
end
end Go.Proofs.Ytgipnemcmiohlaa

