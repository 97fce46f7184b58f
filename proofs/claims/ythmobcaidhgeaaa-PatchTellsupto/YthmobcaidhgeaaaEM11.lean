/- PatZcu PatZcs -/
import Derived.Test.YthmobcaidhgeaaaEM10
set_option linter.unusedSimpArgs false
set_option linter.unusedVariables false
set_option maxRecDepth 100000
set_option maxHeartbeats 8000000
namespace Go.Proofs.Ythmobcaidhgeaaa
open Go.RowKit
theorem zSet_any (d : Nat → Prop) (x y : Nd) (l : List Stp) (cs ds : List Value) (v : Value) (w : World) (hd : UndZ d w) (hx : LieZ d w cs x) (hy : LieZ d w ds y) (hv : WayV w.heap.size w v l) (hfew : Few9 x) (hll : l.length ≤ 1000000) :
  Calls Try.prog 24 #[.agg cs.toArray, v, .agg ds.toArray] w (PTreZ d (SetX x l y).1 (.int .i64 ((SetX x l y).2 : Int)) w) := by
 obtain ⟨A, c, rfl, hk⟩ := hx.shape
 obtain ⟨E, ec, rfl, hk2⟩ := hy.shape
 obtain ⟨a, f⟩ := x
 obtain ⟨e, eg⟩ := y
 rcases List.eq_nil_or_concat l with rfl | ⟨l0, s, rfl⟩
 ·obtain ⟨B, m, rfl⟩ := hv.shape
  exact zSet_nil d a e f eg A E B c ec m w hd hx
 ·obtain ⟨B, m, rfl⟩ := hv.shape
  obtain ⟨g, o, rfl, hN, hNm, hg, hs1, hs2⟩ := hv.at (j := l0.length) (s := s) (by simp)
  have hlen : (l0.concat s).length = l0.length + 1 := by simp
  have hlast : (l0.concat s).getLast? = some s := by simp
  have hdrop : (l0.concat s).dropLast = l0 := by simp
  rw [hlen] at hNm hll hv ⊢
  by_cases h1 : s.1 = e.name
  ·by_cases h2 : s.2 = e.key
   ·have hs : s = stp e := Prod.ext h1 h2
    have hG : ∀ W, Below w.heap.size w W → Calls Try.prog 22 #[.agg (cN a (.slice A f.len c)), .slice (some ⟨g, o, none⟩) l0.length m] W (PTreZ d ((GetX (a, f) l0).1.1, (GetX (a, f) l0).1.2) (.bool (GetX (a, f) l0).2) W) := fun W hW => by
     refine zget_any d l0 (a, f) _ _ W (und_le hd hW.size) (hx.under hW hd) ?_ hfew
     have h3 := (hv.under hW (Nat.le_refl _) hW.size).front l0.length (by simp)
     rwa [show (l0.concat s).take l0.length = l0 by simp] at h3
    have hSX : SetX (a, f) (l0.concat s) (e, eg) = match getX (a, f) l0 with
      | none => (noN, 30)
      | some p => if p.1.kind ≠ 0 then (noN, 30) else (setX (a, f) (l0.concat s) (e, eg), 0) := by
     unfold SetX
     rw [if_neg (by rw [hlast, hs]; simp), hdrop]
     cases getX (a, f) l0 <;> rfl
    cases hp : getX (a, f) l0 with
    | none =>
     have hGX : GetX (a, f) l0 = (noN, false) := by unfold GetX; rw [hp]
     rw [hSX, hp]
     rw [hGX] at hG
     exact zSet_none d a e f eg A E c ec m g o l0.length s _ _ w hd hx hg hs1 hs2 (by omega) hNm (beq_iff_eq.2 h1) (beq_iff_eq.2 h2) hG
    | some p =>
     have hGX : GetX (a, f) l0 = (p, true) := by unfold GetX; rw [hp]
     rw [hSX, hp]
     rw [hGX] at hG
     simp only
     by_cases hkp : p.1.kind = 0
     ·rw [if_neg (by simp [hkp])]
      have hok : okSet (a, f) (l0.concat s) (e, eg) := (ok_iff _ _).2 ⟨by rw [hlast, hs], p, by rw [hdrop]; exact hp, hkp⟩
      exact zSet_ok d a e f eg A E c ec m g o l0.length s _ _ w hd hx hg hs1 hs2 (by omega) hNm (beq_iff_eq.2 h1) (beq_iff_eq.2 h2) hkp _ _
       (fun W hW => zset_any d (e, eg) (l0.concat s) (a, f) _ _ _ W (und_le hd hW.size) (hx.under hW hd) (hy.under hW hd) (hv.under hW (Nat.le_refl _) hW.size) hfew hok) hG
     ·rw [if_pos hkp]
      exact zSet_leaf d a e f eg A E c ec m g o l0.length s _ _ w hd hx hg hs1 hs2 (by omega) hNm (beq_iff_eq.2 h1) (beq_iff_eq.2 h2) hkp hG
   ·have hSX : SetX (a, f) (l0.concat s) (e, eg) = (noN, 1) := by
     unfold SetX; rw [if_pos (by rw [hlast]; intro h; injection h with h; exact h2 (by rw [h]; rfl))]
    rw [hSX]
    exact zSet_arg_key d a e f eg A E c ec m g o l0.length s w hd hx hg hs1 hs2 (by omega) hNm (beq_iff_eq.2 h1) (beq_eq_false_iff_ne.2 h2)
  ·have hSX : SetX (a, f) (l0.concat s) (e, eg) = (noN, 1) := by
    unfold SetX; rw [if_pos (by rw [hlast]; intro h; injection h with h; exact h1 (by rw [h]; rfl))]
   rw [hSX]
   exact zSet_arg_name d a e f eg A E c ec m g o l0.length s w hd hx hg hs1 hs2 (by omega) hNm (beq_eq_false_iff_ne.2 h1)
theorem zcut_one (d : Nat → Prop) (a : NdD) (f : NdF) (A : Option Addr) (c : Nat) (s : Stp) (g o N m i : Nat) (Rf : NdF) (w : World) (hd : UndZ d w) (hx : LieZ d w (ndC a (.slice A f.len c)) (a, f)) (hl : f.len ≤ 1000000)
  (hv : WayV w.heap.size w (.slice (some ⟨g, o, none⟩) N m) [s]) (hf : findN s f = some i) (hi : i < f.len) (hR : withF f i 1 .nil = Rf) :
  Calls Try.prog 32 #[.agg (cN a (.slice A f.len c)), .slice (some ⟨g, o, none⟩) N m] w (PTreZ1 d (a, Rf) w) := by
 obtain ⟨h1, h2, h3, h4⟩ := get_boxes a f A c w (hx.lie hd)
 obtain ⟨g', o', eg', hNl, hNm, hg, hs1, hs2⟩ := hv.at (j := 0) (s := s) rfl
 injection eg' with eg'
 injection eg' with eg1 eg2 eg3
 subst eg1 eg2
 have hs : Stp0 w g o s := ⟨by simpa using hs1, by simpa using hs2⟩
 have hN : 0 < N := by rw [hNl]; simp
 have i1 : (0 : Int) < (N : Int) := by omega
 have i2 : (1 : Int) ≤ (N : Int) := by omega
 have i3 : (N : Int) ≤ (m : Int) := by omega
 have HF : Hid (Calls Try.prog 31 #[.agg (cN a (.slice A f.len c)), .agg #[.string (txt s.1), .string (txt s.2)]] ((w.alloc (.cells (cN a (.slice A f.len c)) 27)).alloc (.cells #[.string ⟨#[]⟩, .string ⟨#[]⟩, .int .i64 0, .int .u64 0, .string ⟨#[]⟩, .slice none 0 0] 27)).drew (Ans9 (.int .i64 (i : Int)) ((w.alloc (.cells (cN a (.slice A f.len c)) 27)).alloc (.cells #[.string ⟨#[]⟩, .string ⟨#[]⟩, .int .i64 0, .int .u64 0, .string ⟨#[]⟩, .slice none 0 0] 27)).drew)) := hHd (by
  have h := rfindn_any s (a, f) _ ((w.alloc (.cells (cN a (.slice A f.len c)) 27)).alloc (.cells #[.string ⟨#[]⟩, .string ⟨#[]⟩, .int .i64 0, .int .u64 0, .string ⟨#[]⟩, .slice none 0 0] 27)).drew h4 hl
  rw [show findIx s f = (i : Int) by unfold findIx; rw [hf]] at h
  exact h)
 have hk := LieZ.row hx
 have j1 : (0 : Int) ≤ (i : Int) := by omega
 have HX := hHd h1
 have HZ := hHd h2
 have HB := hHd h3
 have HSt := hHd (hs.below hg h3.drew)
 have HGL := hHd hg
 have HD := hHd hd
 have hN2 : N = 1 := hNl
 have HRF := hHd hR
 have HK := hHd hk
 have HLN := hHd (And.intro hl (show i + 1 ≤ f.len by omega))
 clear h1 h2 h3 h4 hx hl hs hf hg hk hv hs1 hs2 hNl hNm hi hd hR
 subst hN2
 go_enter Try.func32, Try.ntmps32
 go_wp2_with fail
 refine wp_region_noPanic ?_
 refine wp_region_held_drew (S := fun _ => True) (by kernel_rfl) trivial (fun hS => ?_)
 refine held_more (S' := fun w' => Blk w' w.heap.size 27 (cN a (.slice A f.len c)) ∧ Stp0 w' g o s) (fun _ _ => trivial) _ _ _ _ ?_
 replace hS := And.intro (HX.out.below (Below.refl _ _).drew HX.out.lt) HSt.out
 refine tkH 0 hS ?_ (hy := fun w hSw => by obtain ⟨q0, q1, q2, q3, q4, q5⟩ := cl6 hSw.1; (go_simp <;> with_reducible rfl))
 refine tkH 1 hS ?_
 refine tkH 2 hS ?_
 refine tkH 3 hS ?_ (hy := fun w hSw => by have q0 := hSw.2.1; have q1 := hSw.2.2; (go_simp <;> with_reducible rfl))
 refine rdy1 4 fun K hK => ?_
 go_simp
 refine HF.out.mono ?_
 rintro r w3 ⟨rfl, hb3⟩
 have HB3 := hHd (HB.out.drew.trans (hb3.mono HB.out.drew.size))
 have HZ3 := hHd ((HZ.out.below (Below.refl _ _).drew HZ.out.lt).below hb3 HZ.out.lt)
 have HX3 := hHd ((HX.out.below (Below.refl _ _).drew HX.out.lt).below hb3 HX.out.lt)
 have HW3 := hHd hb3
 clear hb3
 go_wp2_with fail
 refine hK.out _ _ ?sr_0 (fun hS => ?_)
 case sr_0 => (exact ⟨HX3.out, HSt.out.below (Nat.lt_of_lt_of_le HGL.out HB.out.drew.size) HW3.out⟩)
 clear hK K
 (try simp only [Act.put, layS])
 refine tkH 5 hS ?_
 refine wpAnyH_done (by kernel_rfl) ?_ _
 refine NoPanic.normal ?_
 clear hS
 have HWC : Hid (Calls Try.prog 43 #[.agg (cN a (.slice A f.len c)), .int .i64 (i : Int), .int .i64 1, .slice none 0 0] w3 (WithZ d (w.heap.size + 2) a Rf w3)) := hHd (by
  have hz3 : w.heap.size + 1 < w3.heap.size := HZ3.out.lt
  have hdd := HD.out
  rw [← HRF.out]
  exact zwith_any d (w.heap.size + 2) a f .nil A f.len c i 1 none 0 0 w3 (fun g h9 => by have := hdd g h9; omega) (by omega)
   (FrV.mono stay_nd (HK.out.under HB3.out HD.out) (fun g hg => .inl hg) (fun _ h => h)) (FrV.none_ _ _)
   (by have := HLN.out; omega) (by have := HLN.out; omega) (by omega))
 obtain ⟨q0, q1, q2, q3, q4, q5⟩ := cl6 HX3.out
 go_wp2_with fail
 refine HWC.out.mono ?_
 rintro r w7 ⟨A7, c7, rfl, hv7, hb7⟩
 have HV7 := hHd hv7
 have HB7 := hHd (HB3.out.trans (hb7.mono HB3.out.size))
 have HZ7 := hHd (HZ3.out.below hb7 HZ3.out.lt)
 clear hv7 hb7 q0 q1 q2 q3 q4 q5
 have fz0 : (w7).frozen? ⟨w.heap.size + 1, 0, none⟩ = false := HZ7.out.frozen 0
 have fq0 := (HZ7.out.cell 0).trans rfl
 have fz1 : (w7).frozen? ⟨w.heap.size + 1, 1, none⟩ = false := HZ7.out.frozen 1
 have fq1 := (HZ7.out.cell 1).trans rfl
 have fz2 : (w7).frozen? ⟨w.heap.size + 1, 2, none⟩ = false := HZ7.out.frozen 2
 have fq2 := (HZ7.out.cell 2).trans rfl
 have fz3 : (w7).frozen? ⟨w.heap.size + 1, 3, none⟩ = false := HZ7.out.frozen 3
 have fq3 := (HZ7.out.cell 3).trans rfl
 have fz4 : (w7).frozen? ⟨w.heap.size + 1, 4, none⟩ = false := HZ7.out.frozen 4
 have fq4 := (HZ7.out.cell 4).trans rfl
 have fz5 : (w7).frozen? ⟨w.heap.size + 1, 5, none⟩ = false := HZ7.out.frozen 5
 have fq5 := (HZ7.out.cell 5).trans rfl
 go_wp2
 have HBZ : Hid (Below w.heap.size w (set6 w7 (w.heap.size + 1) (.string (txt a.name)) (.string (txt a.key)) (.int .i64 a.kind) (.int .u64 (a.num : Int)) (.string (txt a.text)) (.slice A7 Rf.len c7))) := hHd (HB7.out.trans (set6_below (by omega)))
 have HLZ : Hid (LieQ d w.heap.size (set6 w7 (w.heap.size + 1) (.string (txt a.name)) (.string (txt a.key)) (.int .i64 a.kind) (.int .u64 (a.num : Int)) (.string (txt a.text)) (.slice A7 Rf.len c7)) (ndC a (.slice A7 Rf.len c7)) (a, Rf)) := hHd (LieQ.after (B := w.heap.size + 2) ((LieQ.make (S := d) (B := w.heap.size + 2) HV7.out).set6 (fun h9 => by have := HD.out _ h9; omega) (by omega) _ _ _ _ _ _) (by omega))
 refine bodyPost_ret (results_cell_row rfl _ _ (w.heap.size + 1) 27 _ (0, 0) _ rfl (HZ7.out.set6 _ _ _ _ _ _) Try.underlying27 rfl (by kernel_rfl)) rfl ?_
 exact ⟨_, rfl, HLZ.out, HBZ.out⟩
theorem zcut_deep (d : Nat → Prop) (a : NdD) (f : NdF) (A : Option Addr) (c : Nat) (s t : Stp) (l : List Stp) (g o N m i : Nat) (a1 : NdD) (q : NdF) (za : NdD) (zf Rf : NdF) (w : World) (hd : UndZ d w) (hx : LieZ d w (ndC a (.slice A f.len c)) (a, f)) (hl : f.len ≤ 1000000)
  (hv : WayV w.heap.size w (.slice (some ⟨g, o, none⟩) N m) (s :: t :: l)) (hf : findN s f = some i) (hy : f.get? i = some (a1, q)) (hR : withF f i 1 (oneF (za, zf)) = Rf)
  (hI : ∀ (cs : List Value) (v : Value) (W : World), UndZ d W → LieZ d W cs (a1, q) → WayV W.heap.size W v (t :: l) → Calls Try.prog 32 #[.agg cs.toArray, v] W (PTreZ1 d (za, zf) W)) :
  Calls Try.prog 32 #[.agg (cN a (.slice A f.len c)), .slice (some ⟨g, o, none⟩) N m] w (PTreZ1 d (a, Rf) w) := by
 obtain ⟨h1, h2, h3, h4⟩ := get_boxes a f A c w (hx.lie hd)
 obtain ⟨g', o', eg', hNl, hNm, hg, hs1, hs2⟩ := hv.at (j := 0) (s := s) rfl
 injection eg' with eg'
 injection eg' with eg1 eg2 eg3
 subst eg1 eg2
 have hs : Stp0 w g o s := ⟨by simpa using hs1, by simpa using hs2⟩
 have hN : 0 < N := by rw [hNl]; simp
 have i1 : (0 : Int) < (N : Int) := by omega
 have i2 : (1 : Int) ≤ (N : Int) := by omega
 have i3 : (N : Int) ≤ (m : Int) := by omega
 have HF : Hid (Calls Try.prog 31 #[.agg (cN a (.slice A f.len c)), .agg #[.string (txt s.1), .string (txt s.2)]] ((w.alloc (.cells (cN a (.slice A f.len c)) 27)).alloc (.cells #[.string ⟨#[]⟩, .string ⟨#[]⟩, .int .i64 0, .int .u64 0, .string ⟨#[]⟩, .slice none 0 0] 27)).drew (Ans9 (.int .i64 (i : Int)) ((w.alloc (.cells (cN a (.slice A f.len c)) 27)).alloc (.cells #[.string ⟨#[]⟩, .string ⟨#[]⟩, .int .i64 0, .int .u64 0, .string ⟨#[]⟩, .slice none 0 0] 27)).drew)) := hHd (by
  have h := rfindn_any s (a, f) _ ((w.alloc (.cells (cN a (.slice A f.len c)) 27)).alloc (.cells #[.string ⟨#[]⟩, .string ⟨#[]⟩, .int .i64 0, .int .u64 0, .string ⟨#[]⟩, .slice none 0 0] 27)).drew h4 hl
  rw [show findIx s f = (i : Int) by unfold findIx; rw [hf]] at h
  exact h)
 have hk := LieZ.row hx
 have j1 : (0 : Int) ≤ (i : Int) := by omega
 have HX := hHd h1
 have HZ := hHd h2
 have HB := hHd h3
 have HSt := hHd (hs.below hg h3.drew)
 have HGL := hHd hg
 have HD := hHd hd
 have hi := Fr.get_lt hy
 obtain ⟨b, p, A1, c1, rfl, -, -, hbl, hrow, hcl⟩ := hk.at hy
 have hN2 : N = (t :: l).length + 1 := hNl
 have hN3 : 1 < N := by rw [hN2]; simp
 have n1 : ((N : Int) == 1) = false := by rw [beq_eq_false_iff_ne]; omega
 have n2 : (N == 1) = false := by rw [beq_eq_false_iff_ne]; omega
 have hm1 : ¬ m = 1 := by omega
 have j2 : (i : Int) < (f.len : Int) := by omega
 have HBL := hHd (hd _ hbl)
 have HI := hHd hI
 have HV := hHd hv
 have HC := hHd hcl
 have HR := hHd hrow
 have HK := hHd hk
 have HRF := hHd hR
 have HLN := hHd (And.intro hl hi)
 clear h1 h2 h3 h4 hx hl hs hf hg hk hbl hrow hcl hI hv hs1 hs2 hNl hNm hy hi hd hR hN2
 go_enter Try.func32, Try.ntmps32
 go_wp2_with fail
 refine wp_region_noPanic ?_
 refine wp_region_held_drew (S := fun _ => True) (by kernel_rfl) trivial (fun hS => ?_)
 refine held_more (S' := fun w' => Blk w' w.heap.size 27 (cN a (.slice (some ⟨b, p, none⟩) f.len c)) ∧ Stp0 w' g o s) (fun _ _ => trivial) _ _ _ _ ?_
 replace hS := And.intro (HX.out.below (Below.refl _ _).drew HX.out.lt) HSt.out
 refine tkH 0 hS ?_ (hy := fun w hSw => by obtain ⟨q0, q1, q2, q3, q4, q5⟩ := cl6 hSw.1; (go_simp <;> with_reducible rfl))
 refine tkH 1 hS ?_
 refine tkH 2 hS ?_
 refine tkH 3 hS ?_ (hy := fun w hSw => by have q0 := hSw.2.1; have q1 := hSw.2.2; (go_simp <;> with_reducible rfl))
 refine rdy1 4 fun K hK => ?_
 go_simp
 refine HF.out.mono ?_
 rintro r w3 ⟨rfl, hb3⟩
 have HB3 := hHd (HB.out.drew.trans (hb3.mono HB.out.drew.size))
 have HZ3 := hHd ((HZ.out.below (Below.refl _ _).drew HZ.out.lt).below hb3 HZ.out.lt)
 have HX3 := hHd ((HX.out.below (Below.refl _ _).drew HX.out.lt).below hb3 HX.out.lt)
 have HW3 := hHd hb3
 clear hb3
 go_wp2_with fail
 refine hK.out _ _ ?sr_1 (fun hS => ?_)
 case sr_1 => (exact ⟨HX3.out, HSt.out.below (Nat.lt_of_lt_of_le HGL.out HB.out.drew.size) HW3.out⟩)
 clear hK K
 (try simp only [Act.put, layS])
 refine tkH 5 hS ?_
 refine wpAnyH_done (by kernel_rfl) ?_ _
 refine NoPanic.normal ?_
 clear hS
 go_wp2_with fail
 have HX4 := hHd (HX3.out.below (Below.refl _ _).drew HX3.out.lt)
 have HZ4 := hHd (HZ3.out.below (Below.refl _ _).drew HZ3.out.lt)
 have HC4 : Hid (∀ j u, (ndC a1 (.slice A1 q.len c1))[j]? = some u → w3.drew.cell? ⟨b, p + i * 6 + j, none⟩ = some u) := hHd (fun j u hu => (HB3.out.drew.cell (p := ⟨b, p + i * 6 + j, none⟩) HBL.out).trans (HC.out j u hu))
 have HI1 : Hid (Calls Try.prog 32 #[.agg (cN a1 (.slice A1 q.len c1)), .slice (some ⟨g, o + 2, none⟩) (N - 1) (m - 1)] w3.drew (PTreZ1 d (za, zf) w3.drew)) := hHd
  (HI.out _ _ w3.drew (und_le HD.out HB3.out.drew.size) (LieZ.make (HR.out.under HB3.out.drew HD.out)) (way_tail1 (HV.out.under HB3.out.drew (Nat.le_refl _) HB3.out.drew.size)))
 refine wp_region_noPanic ?_
 refine wp_region_held_drew (S := fun _ => True) (by kernel_rfl) trivial (fun hS => ?_)
 refine held_more (S' := (fun w' => Blk w' w.heap.size 27 (cN a (.slice (some ⟨b, p, none⟩) f.len c)) ∧ ∀ j u, (ndC a1 (.slice A1 q.len c1))[j]? = some u → w'.cell? ⟨b, p + i * 6 + j, none⟩ = some u)) (fun _ _ => trivial) _ _ _ _ ?_
 replace hS := And.intro HX4.out HC4.out
 refine tkH 0 hS ?_ (hy := fun w hSw => by obtain ⟨q0, q1, q2, q3, q4, q5⟩ := cl6 hSw.1; (go_simp <;> with_reducible rfl))
 refine tkH 1 hS ?_
 refine tkH 2 hS ?_
 refine tkH 3 hS ?_ (hy := fun w hSw => by have q5 := (hSw.1.cell 5).trans rfl; (go_simp <;> with_reducible rfl))
 refine tkH 4 hS ?_
 refine tkH 5 hS ?_
 refine tkH 6 hS ?_ (hy := fun w hSw => by have u0 : w.cell? ⟨b, p + i * 6, none⟩ = _ := hSw.2 0 _ rfl; have u1 := hSw.2 1 _ rfl; have u2 := hSw.2 2 _ rfl; have u3 := hSw.2 3 _ rfl; have u4 := hSw.2 4 _ rfl; have u5 := hSw.2 5 _ rfl; (go_simp <;> with_reducible rfl))
 refine tkH 7 hS ?_
 refine tkH 8 hS ?_
 refine rdy1 9 fun K hK => ?_
 go_simp
 refine HI1.out.mono ?_
 intro r w6 hr
 obtain ⟨A6, c6, rfl, hl6, hb6⟩ := hr.flat
 have HL6 := hHd hl6
 have HB6 := hHd (HB3.out.drew.trans (hb6.mono HB3.out.drew.size))
 have HX6 := hHd (HX4.out.below hb6 HX4.out.lt)
 have HZ6 := hHd (HZ4.out.below hb6 HZ4.out.lt)
 have HC6 : Hid (∀ j u, (ndC a1 (.slice A1 q.len c1))[j]? = some u → w6.cell? ⟨b, p + i * 6 + j, none⟩ = some u) := hHd (fun j u hu => (hb6.cell (p := ⟨b, p + i * 6 + j, none⟩) (Nat.lt_of_lt_of_le HBL.out HB3.out.drew.size)).trans (HC4.out j u hu))
 have HW6 := hHd hb6
 clear hb6 hr hl6
 go_wp2_with fail
 refine hK.out _ _ ?sr_2 (fun hS => ?_)
 case sr_2 => (exact ⟨HX6.out, HC6.out⟩)
 clear hK K
 (try simp only [Act.put, layS])
 refine rdy1 10 fun K hK => ?_
 go_simp
 refine hK.out _ _ ?sr_3 (fun hS => ?_)
 case sr_3 => (exact ⟨HX6.out.alloc _, fun j u hu => (Below.cell (B := w6.heap.size) ((Below.refl w6.heap.size w6).alloc (Nat.le_refl _) (.cells (cN za (.slice A6 zf.len c6)) 27)) (p := ⟨b, p + i * 6 + j, none⟩) (Nat.lt_of_lt_of_le HBL.out HB6.out.size)).trans (HC6.out j u hu)⟩)
 clear hK K
 (try simp only [Act.put, layS])
 have hal : Below w6.heap.size w6 (w6.alloc (.cells (cN za (.slice A6 zf.len c6)) 27)) := bAl
 have HWC : Hid (Calls Try.prog 43 #[.agg (cN a (.slice (some ⟨b, p, none⟩) f.len c)), .int .i64 (i : Int), .int .i64 1, .slice (some ⟨w6.heap.size, 0, none⟩) 1 1] (w6.alloc (.cells (cN za (.slice A6 zf.len c6)) 27)) (WithZ d (w.heap.size + 2) a Rf (w6.alloc (.cells (cN za (.slice A6 zf.len c6)) 27)))) := hHd (by
  have hz3 : w.heap.size + 1 < w3.heap.size := HZ3.out.lt
  have hz6 : w3.heap.size ≤ w6.heap.size := HW6.out.size
  have hzs : (w6.alloc (.cells (cN za (.slice A6 zf.len c6)) 27)).heap.size = w6.heap.size + 1 := by simp
  have hdd := HD.out
  rw [← HRF.out]
  exact zwith_any d (w.heap.size + 2) a f (oneF (za, zf)) (some ⟨b, p, none⟩) f.len c i 1 (some ⟨w6.heap.size, 0, none⟩) 1 1 (w6.alloc (.cells (cN za (.slice A6 zf.len c6)) 27)) (fun g h9 => by have := hdd g h9; omega) (by omega)
   (FrV.mono stay_nd (HK.out.under (HB6.out.trans (hal.mono HB6.out.size)) HD.out) (fun g hg => .inl hg) (fun _ h => h))
   (row_one (FrN.kept stay_nd HL6.out (fun g hg => Below.heap_alloc w6 _ g (by rcases hg with h | h <;> (first | omega | (have h9 := hdd _ h; omega) | (have h9 := hd _ h; omega) | (have h9 := HDB.out.1 _ h; omega) | (have h9 := HD.out _ h; omega)))) (fun g hg => by rcases hg with h | h; exact .inl h; exact .inr ⟨by have : w3.drew.heap.size = w3.heap.size := rfl; omega, by omega⟩) (fun _ h => h.elim) (fun _ h => h)) (.inr ⟨by omega, by omega⟩) (Blk.new w6 27 (cN za (.slice A6 zf.len c6))))
   (by have := HLN.out; omega) (by have := HLN.out; omega) (by omega))
 have HALL := hHd hal
 clear hal
 refine rdy1 11 fun K hK => ?_
 go_simp
 refine HWC.out.mono ?_
 rintro r w7 ⟨A7, c7, rfl, hv7, hb7⟩
 have HV7 := hHd hv7
 have HB7 := hHd ((HB6.out.trans (HALL.out.mono HB6.out.size)).trans (hb7.mono (by have h1 := HB6.out.size; simp; omega)))
 have HX7 := hHd ((HX6.out.alloc (.cells (cN za (.slice A6 zf.len c6)) 27)).below hb7 (HX6.out.alloc (.cells (cN za (.slice A6 zf.len c6)) 27)).lt)
 have HZ7 := hHd ((HZ6.out.alloc (.cells (cN za (.slice A6 zf.len c6)) 27)).below hb7 (HZ6.out.alloc (.cells (cN za (.slice A6 zf.len c6)) 27)).lt)
 have HC7 : Hid (∀ j u, (ndC a1 (.slice A1 q.len c1))[j]? = some u → w7.cell? ⟨b, p + i * 6 + j, none⟩ = some u) := hHd (fun j u hu => (HB7.out.cell (p := ⟨b, p + i * 6 + j, none⟩) HBL.out).trans (HC.out j u hu))
 clear hv7 hb7
 go_wp2_with fail
 refine hK.out _ _ ?sr_4 (fun hS => ?_)
 case sr_4 => (exact ⟨HX7.out, HC7.out⟩)
 clear hK K
 (try simp only [Act.put, layS])
 refine rdy1 12 fun K hK => ?_
 have fz0 : (w7).frozen? ⟨w.heap.size + 1, 0, none⟩ = false := HZ7.out.frozen 0
 have fq0 := (HZ7.out.cell 0).trans rfl
 have fz1 : (w7).frozen? ⟨w.heap.size + 1, 1, none⟩ = false := HZ7.out.frozen 1
 have fq1 := (HZ7.out.cell 1).trans rfl
 have fz2 : (w7).frozen? ⟨w.heap.size + 1, 2, none⟩ = false := HZ7.out.frozen 2
 have fq2 := (HZ7.out.cell 2).trans rfl
 have fz3 : (w7).frozen? ⟨w.heap.size + 1, 3, none⟩ = false := HZ7.out.frozen 3
 have fq3 := (HZ7.out.cell 3).trans rfl
 have fz4 : (w7).frozen? ⟨w.heap.size + 1, 4, none⟩ = false := HZ7.out.frozen 4
 have fq4 := (HZ7.out.cell 4).trans rfl
 have fz5 : (w7).frozen? ⟨w.heap.size + 1, 5, none⟩ = false := HZ7.out.frozen 5
 have fq5 := (HZ7.out.cell 5).trans rfl
 go_simp
 refine hK.out _ _ ?sr_5 (fun hS => ?_)
 case sr_5 => (exact ⟨(set6_other (w := w7) (b := w.heap.size + 1) (by omega)).trans HX7.out, fun j u hu => (World.cell?_of_block (set6_other (w := w7) (b := w.heap.size + 1) (by have := HBL.out; show b ≠ _; omega))).trans (HC7.out j u hu)⟩)
 clear hK K
 (try simp only [Act.put, layS])
 refine wpAnyH_done (by kernel_rfl) ?_ _
 refine NoPanic.normal ?_
 clear hS
 go_wp2
 have HBZ : Hid (Below w.heap.size w (set6 w7 (w.heap.size + 1) (.string (txt a.name)) (.string (txt a.key)) (.int .i64 a.kind) (.int .u64 (a.num : Int)) (.string (txt a.text)) (.slice A7 Rf.len c7))) := hHd (HB7.out.trans (set6_below (by omega)))
 have HLZ : Hid (LieQ d w.heap.size (set6 w7 (w.heap.size + 1) (.string (txt a.name)) (.string (txt a.key)) (.int .i64 a.kind) (.int .u64 (a.num : Int)) (.string (txt a.text)) (.slice A7 Rf.len c7)) (ndC a (.slice A7 Rf.len c7)) (a, Rf)) := hHd (LieQ.after (B := w.heap.size + 2) ((LieQ.make (S := d) (B := w.heap.size + 2) HV7.out).set6 (fun h9 => by have := HD.out _ h9; omega) (by omega) _ _ _ _ _ _) (by omega))
 refine bodyPost_ret (results_cell_row rfl _ _ (w.heap.size + 1) 27 _ (0, 0) _ rfl (HZ7.out.set6 _ _ _ _ _ _) Try.underlying27 rfl (by kernel_rfl)) rfl ?_
 exact ⟨_, rfl, HLZ.out, HBZ.out⟩
theorem zcut_any (d : Nat → Prop) : ∀ (l : List Stp) (x z : Nd) (cs : List Value) (v : Value) (w : World), UndZ d w → LieZ d w cs x → WayV w.heap.size w v l → Few9 x → l ≠ [] → getX x l = some z →
  Calls Try.prog 32 #[.agg cs.toArray, v] w (PTreZ1 d (cutX x l) w) := by
 intro l
 induction l with
 | nil => intro x z cs v w _ _ _ _ h; exact absurd rfl h
 | cons s l ih =>
  intro x z cs v w hd hx hv hfew _ hz
  obtain ⟨A, c, rfl, hk⟩ := hx.shape
  obtain ⟨a, f⟩ := x
  obtain ⟨B, m, rfl⟩ := hv.shape
  obtain ⟨g, o, rfl, hN, hNm, hg, hs1, hs2⟩ := hv.at (j := 0) (s := s) rfl
  have hl : f.len ≤ 1000000 := Nat.le_trans (Fr.len_size f) hfew
  rw [getX.eq_def] at hz
  simp only at hz
  cases h1 : gtF s f with
  | none => rw [h1] at hz; cases hz
  | some u =>
   rw [h1] at hz
   obtain ⟨i, hfi, hgi⟩ := getF_find h1
   cases l with
   | nil =>
    rw [cutX_one]
    exact zcut_one d a f A c s g o _ m i (delF s f) w hd hx hl hv hfi (Fr.get_lt hgi) (with_del hfi)
   | cons t l =>
    rw [cut_more]
    simp only
    rw [h1]
    obtain ⟨a1, q⟩ := u
    exact zcut_deep d a f A c s t l g o _ m i a1 q (cutX (a1, q) (t :: l)).1 (cutX (a1, q) (t :: l)).2 _ w hd hx hl hv hfi hgi (with_rep hfi)
     (fun cs v W h3 h4 h5 => ih (a1, q) z cs v W h3 h4 h5 (by have h4 : q.size < f.size := Fr.size_get hgi; have : f.size ≤ 1000000 := hfew; show q.size ≤ 1000000; omega) (by simp) hz)
theorem zCut_none (d : Nat → Prop) (a : NdD) (f : NdF) (A : Option Addr) (c : Nat) (B : Option Addr) (N m : Nat) (pa : NdD) (pf : NdF) (w : World) (hd : UndZ d w) (hx : LieZ d w (ndC a (.slice A f.len c)) (a, f))
  (hG : ∀ W, Below w.heap.size w W → Calls Try.prog 22 #[.agg (cN a (.slice A f.len c)), .slice B N m] W (PTreZ d (pa, pf) (.bool false) W)) :
  Calls Try.prog 23 #[.agg (cN a (.slice A f.len c)), .slice B N m] w (PTreZ d noN (.int .i64 30) w) := by
 obtain ⟨h1, h2, h3, h4⟩ := get_boxes a f A c w (hx.lie hd)
 have HX := hHd h1
 have HZ := hHd h2
 have HB := hHd h3
 have HD := hHd hd
 have HGT := hHd (hG ((w.alloc (.cells (cN a (.slice A f.len c)) 27)).alloc (.cells #[.string ⟨#[]⟩, .string ⟨#[]⟩, .int .i64 0, .int .u64 0, .string ⟨#[]⟩, .slice none 0 0] 27)) h3)
 skip
 clear h1 h2 h3 h4 hx hd hG
 obtain ⟨q0, q1, q2, q3, q4, q5⟩ := cl6 HX.out
 go_enter Try.func23, Try.ntmps23
 go_wp2_with fail
 refine HGT.out.mono ?_
 intro r w6 hr
 obtain ⟨A6, c6, rfl, hl6, hb6⟩ := hr.flat
 have HX7 := hHd ((HX.out.below hb6 HX.out.lt).alloc (.cells (cN pa (.slice A6 pf.len c6)) 27))
 have HZ7 := hHd ((HZ.out.below hb6 HZ.out.lt).alloc (.cells (cN pa (.slice A6 pf.len c6)) 27))
 have HB6 := HB.out.trans (hb6.mono HB.out.size)
 have HB7 := hHd (HB6.alloc HB6.size (.cells (cN pa (.slice A6 pf.len c6)) 27))
 clear hb6 hr hl6 q0 q1 q2 q3 q4 q5 HB6
 have fz0 : ((w6.alloc (.cells (cN pa (.slice A6 pf.len c6)) 27))).frozen? ⟨w.heap.size + 1, 0, none⟩ = false := HZ7.out.frozen 0
 have fq0 := (HZ7.out.cell 0).trans rfl
 have fz1 : ((w6.alloc (.cells (cN pa (.slice A6 pf.len c6)) 27))).frozen? ⟨w.heap.size + 1, 1, none⟩ = false := HZ7.out.frozen 1
 have fq1 := (HZ7.out.cell 1).trans rfl
 have fz2 : ((w6.alloc (.cells (cN pa (.slice A6 pf.len c6)) 27))).frozen? ⟨w.heap.size + 1, 2, none⟩ = false := HZ7.out.frozen 2
 have fq2 := (HZ7.out.cell 2).trans rfl
 have fz3 : ((w6.alloc (.cells (cN pa (.slice A6 pf.len c6)) 27))).frozen? ⟨w.heap.size + 1, 3, none⟩ = false := HZ7.out.frozen 3
 have fq3 := (HZ7.out.cell 3).trans rfl
 have fz4 : ((w6.alloc (.cells (cN pa (.slice A6 pf.len c6)) 27))).frozen? ⟨w.heap.size + 1, 4, none⟩ = false := HZ7.out.frozen 4
 have fq4 := (HZ7.out.cell 4).trans rfl
 have fz5 : ((w6.alloc (.cells (cN pa (.slice A6 pf.len c6)) 27))).frozen? ⟨w.heap.size + 1, 5, none⟩ = false := HZ7.out.frozen 5
 have fq5 := (HZ7.out.cell 5).trans rfl
 go_wp2
 refine bodyPost_ret (res_ct9 rfl _ _ (w.heap.size + 1) 27 _ (0, 0) _ rfl (HZ7.out.set6 _ _ _ _ _ _) Try.underlying27 rfl (by kernel_rfl)) rfl ?_
 exact ⟨_, rfl, (LieZ.zero _ _).p _, HB7.out.trans (set6_below (by omega))⟩
theorem zCut_nil (d : Nat → Prop) (a : NdD) (f : NdF) (A : Option Addr) (c : Nat) (B : Option Addr) (N m : Nat) (pa : NdD) (pf : NdF) (w : World) (hd : UndZ d w) (hx : LieZ d w (ndC a (.slice A f.len c)) (a, f)) (hN : N = 0)
  (hG : ∀ W, Below w.heap.size w W → Calls Try.prog 22 #[.agg (cN a (.slice A f.len c)), .slice B N m] W (PTreZ d (pa, pf) (.bool true) W)) :
  Calls Try.prog 23 #[.agg (cN a (.slice A f.len c)), .slice B N m] w (PTreZ d noN (.int .i64 30) w) := by
 obtain ⟨h1, h2, h3, h4⟩ := get_boxes a f A c w (hx.lie hd)
 have HX := hHd h1
 have HZ := hHd h2
 have HB := hHd h3
 have HD := hHd hd
 have HGT := hHd (hG ((w.alloc (.cells (cN a (.slice A f.len c)) 27)).alloc (.cells #[.string ⟨#[]⟩, .string ⟨#[]⟩, .int .i64 0, .int .u64 0, .string ⟨#[]⟩, .slice none 0 0] 27)) h3)
 subst hN
 clear h1 h2 h3 h4 hx hd hG
 obtain ⟨q0, q1, q2, q3, q4, q5⟩ := cl6 HX.out
 go_enter Try.func23, Try.ntmps23
 go_wp2_with fail
 refine HGT.out.mono ?_
 intro r w6 hr
 obtain ⟨A6, c6, rfl, hl6, hb6⟩ := hr.flat
 have HX7 := hHd ((HX.out.below hb6 HX.out.lt).alloc (.cells (cN pa (.slice A6 pf.len c6)) 27))
 have HZ7 := hHd ((HZ.out.below hb6 HZ.out.lt).alloc (.cells (cN pa (.slice A6 pf.len c6)) 27))
 have HB6 := HB.out.trans (hb6.mono HB.out.size)
 have HB7 := hHd (HB6.alloc HB6.size (.cells (cN pa (.slice A6 pf.len c6)) 27))
 clear hb6 hr hl6 q0 q1 q2 q3 q4 q5 HB6
 have fz0 : ((w6.alloc (.cells (cN pa (.slice A6 pf.len c6)) 27))).frozen? ⟨w.heap.size + 1, 0, none⟩ = false := HZ7.out.frozen 0
 have fq0 := (HZ7.out.cell 0).trans rfl
 have fz1 : ((w6.alloc (.cells (cN pa (.slice A6 pf.len c6)) 27))).frozen? ⟨w.heap.size + 1, 1, none⟩ = false := HZ7.out.frozen 1
 have fq1 := (HZ7.out.cell 1).trans rfl
 have fz2 : ((w6.alloc (.cells (cN pa (.slice A6 pf.len c6)) 27))).frozen? ⟨w.heap.size + 1, 2, none⟩ = false := HZ7.out.frozen 2
 have fq2 := (HZ7.out.cell 2).trans rfl
 have fz3 : ((w6.alloc (.cells (cN pa (.slice A6 pf.len c6)) 27))).frozen? ⟨w.heap.size + 1, 3, none⟩ = false := HZ7.out.frozen 3
 have fq3 := (HZ7.out.cell 3).trans rfl
 have fz4 : ((w6.alloc (.cells (cN pa (.slice A6 pf.len c6)) 27))).frozen? ⟨w.heap.size + 1, 4, none⟩ = false := HZ7.out.frozen 4
 have fq4 := (HZ7.out.cell 4).trans rfl
 have fz5 : ((w6.alloc (.cells (cN pa (.slice A6 pf.len c6)) 27))).frozen? ⟨w.heap.size + 1, 5, none⟩ = false := HZ7.out.frozen 5
 have fq5 := (HZ7.out.cell 5).trans rfl
 go_wp2
 refine bodyPost_ret (res_ct9 rfl _ _ (w.heap.size + 1) 27 _ (0, 0) _ rfl (HZ7.out.set6 _ _ _ _ _ _) Try.underlying27 rfl (by kernel_rfl)) rfl ?_
 exact ⟨_, rfl, (LieZ.zero _ _).p _, HB7.out.trans (set6_below (by omega))⟩
theorem zCut_ok (d : Nat → Prop) (a : NdD) (f : NdF) (A : Option Addr) (c : Nat) (B : Option Addr) (N m : Nat) (pa : NdD) (pf : NdF) (w : World) (hd : UndZ d w) (hx : LieZ d w (ndC a (.slice A f.len c)) (a, f)) (hN : 0 < N) (ra : NdD) (rf : NdF) (hS : ∀ W, Below w.heap.size w W → Calls Try.prog 32 #[.agg (cN a (.slice A f.len c)), .slice B N m] W (PTreZ1 d (ra, rf) W))
  (hG : ∀ W, Below w.heap.size w W → Calls Try.prog 22 #[.agg (cN a (.slice A f.len c)), .slice B N m] W (PTreZ d (pa, pf) (.bool true) W)) :
  Calls Try.prog 23 #[.agg (cN a (.slice A f.len c)), .slice B N m] w (PTreZ d (ra, rf) (.int .i64 0) w) := by
 obtain ⟨h1, h2, h3, h4⟩ := get_boxes a f A c w (hx.lie hd)
 have HX := hHd h1
 have HZ := hHd h2
 have HB := hHd h3
 have HD := hHd hd
 have HGT := hHd (hG ((w.alloc (.cells (cN a (.slice A f.len c)) 27)).alloc (.cells #[.string ⟨#[]⟩, .string ⟨#[]⟩, .int .i64 0, .int .u64 0, .string ⟨#[]⟩, .slice none 0 0] 27)) h3)
 have HST := hHd hS
 have n1 : ((N : Int) == 0) = false := by rw [beq_eq_false_iff_ne]; omega
 have n2 : (N == 0) = false := by rw [beq_eq_false_iff_ne]; omega
 clear hS hN
 clear h1 h2 h3 h4 hx hd hG
 obtain ⟨q0, q1, q2, q3, q4, q5⟩ := cl6 HX.out
 go_enter Try.func23, Try.ntmps23
 go_wp2_with fail
 refine HGT.out.mono ?_
 intro r w6 hr
 obtain ⟨A6, c6, rfl, hl6, hb6⟩ := hr.flat
 have HX7 := hHd ((HX.out.below hb6 HX.out.lt).alloc (.cells (cN pa (.slice A6 pf.len c6)) 27))
 have HZ7 := hHd ((HZ.out.below hb6 HZ.out.lt).alloc (.cells (cN pa (.slice A6 pf.len c6)) 27))
 have HB6 := HB.out.trans (hb6.mono HB.out.size)
 have HB7 := hHd (HB6.alloc HB6.size (.cells (cN pa (.slice A6 pf.len c6)) 27))
 clear hb6 hr hl6 q0 q1 q2 q3 q4 q5 HB6
 obtain ⟨q0, q1, q2, q3, q4, q5⟩ := cl6 HX7.out
 go_wp2_with fail
 refine (HST.out (w6.alloc (.cells (cN pa (.slice A6 pf.len c6)) 27)) HB7.out).mono ?_
 intro r w8 hr
 obtain ⟨A8, c8, rfl, hl8, hb8⟩ := hr.flat
 have HL8 := hHd hl8
 have HB8 := hHd (HB7.out.trans (hb8.mono HB7.out.size))
 have HZ8 := hHd (HZ7.out.below hb8 HZ7.out.lt)
 have HSZ := hHd HZ7.out.lt
 clear hb8 hr hl8 q0 q1 q2 q3 q4 q5
 have fz0 : (w8).frozen? ⟨w.heap.size + 1, 0, none⟩ = false := HZ8.out.frozen 0
 have fq0 := (HZ8.out.cell 0).trans rfl
 have fz1 : (w8).frozen? ⟨w.heap.size + 1, 1, none⟩ = false := HZ8.out.frozen 1
 have fq1 := (HZ8.out.cell 1).trans rfl
 have fz2 : (w8).frozen? ⟨w.heap.size + 1, 2, none⟩ = false := HZ8.out.frozen 2
 have fq2 := (HZ8.out.cell 2).trans rfl
 have fz3 : (w8).frozen? ⟨w.heap.size + 1, 3, none⟩ = false := HZ8.out.frozen 3
 have fq3 := (HZ8.out.cell 3).trans rfl
 have fz4 : (w8).frozen? ⟨w.heap.size + 1, 4, none⟩ = false := HZ8.out.frozen 4
 have fq4 := (HZ8.out.cell 4).trans rfl
 have fz5 : (w8).frozen? ⟨w.heap.size + 1, 5, none⟩ = false := HZ8.out.frozen 5
 have fq5 := (HZ8.out.cell 5).trans rfl
 go_wp2
 have HBZ : Hid (Below w.heap.size w (set6 w8 (w.heap.size + 1) (.string (txt ra.name)) (.string (txt ra.key)) (.int .i64 ra.kind) (.int .u64 (ra.num : Int)) (.string (txt ra.text)) (.slice A8 rf.len c8))) := hHd (HB8.out.trans (set6_below (by omega)))
 have HLZ : Hid (LieQ d w.heap.size (set6 w8 (w.heap.size + 1) (.string (txt ra.name)) (.string (txt ra.key)) (.int .i64 ra.kind) (.int .u64 (ra.num : Int)) (.string (txt ra.text)) (.slice A8 rf.len c8)) (ndC ra (.slice A8 rf.len c8)) (ra, rf)) := hHd ((HL8.out.set6 (fun h9 => by have := HD.out _ h9; omega) HSZ.out _ _ _ _ _ _).after HB7.out.size)
 refine bodyPost_ret (res_ct9 rfl _ _ (w.heap.size + 1) 27 _ (0, 0) _ rfl (HZ8.out.set6 _ _ _ _ _ _) Try.underlying27 rfl (by kernel_rfl)) rfl ?_
 exact ⟨_, rfl, HLZ.out, HBZ.out⟩
theorem zCut_any (d : Nat → Prop) (x : Nd) (l : List Stp) (cs : List Value) (v : Value) (w : World) (hd : UndZ d w) (hx : LieZ d w cs x) (hv : WayV w.heap.size w v l) (hfew : Few9 x) (hll : l.length ≤ 1000000) :
  Calls Try.prog 23 #[.agg cs.toArray, v] w (PTreZ d (CutX x l).1 (.int .i64 ((CutX x l).2 : Int)) w) := by
 obtain ⟨A, c, rfl, hk⟩ := hx.shape
 obtain ⟨a, f⟩ := x
 obtain ⟨B, m, rfl⟩ := hv.shape
 have hG : ∀ W, Below w.heap.size w W → Calls Try.prog 22 #[.agg (cN a (.slice A f.len c)), .slice B l.length m] W (PTreZ d ((GetX (a, f) l).1.1, (GetX (a, f) l).1.2) (.bool (GetX (a, f) l).2) W) := fun W hW =>
  zget_any d l (a, f) _ _ W (und_le hd hW.size) (hx.under hW hd) (hv.under hW (Nat.le_refl _) hW.size) hfew
 cases hp : getX (a, f) l with
 | none =>
  have hGX : GetX (a, f) l = (noN, false) := by unfold GetX; rw [hp]
  have hC : CutX (a, f) l = (noN, 30) := by unfold CutX; split <;> simp [hp]
  rw [hGX] at hG
  rw [hC]
  exact zCut_none d a f A c B l.length m _ _ w hd hx hG
 | some p =>
  have hGX : GetX (a, f) l = (p, true) := by unfold GetX; rw [hp]
  rw [hGX] at hG
  by_cases hl : l = []
  ·have hC : CutX (a, f) l = (noN, 30) := by unfold CutX; rw [if_pos hl]
   rw [hC]
   exact zCut_nil d a f A c B l.length m _ _ w hd hx (by rw [hl]; rfl) hG
  ·rw [CutX_is hl hp]
   exact zCut_ok d a f A c B l.length m _ _ w hd hx (by have : l.length ≠ 0 := fun h => hl (List.eq_nil_of_length_eq_zero h); omega) (cutX (a, f) l).1 (cutX (a, f) l).2
    (fun W hW => zcut_any d l (a, f) p _ _ W (und_le hd hW.size) (hx.under hW hd) (hv.under hW (Nat.le_refl _) hW.size) hfew hl hp) hG
end Go.Proofs.Ythmobcaidhgeaaa
