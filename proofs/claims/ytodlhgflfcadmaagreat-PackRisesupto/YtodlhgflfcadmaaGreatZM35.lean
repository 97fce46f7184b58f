/- What PackRises stands on: Law13B, Law13C. -/
import Derived.Test.YtodlhgflfcadmaaGreatZM0
import Derived.Test.YtodlhgflfcadmaaGreatZM34
set_option linter.unusedSimpArgs false
set_option linter.unusedVariables false
namespace Go.Proofs.YtodlhgflfcadmaaGreat
open Go.RowKit
theorem begs {t : Nat} {k : Fo} (h : begB t k = true) (ho : t % 2 = 1) : ∃ d0 k0 r0, k = .cons 0 d0 k0 r0 ∧ d0 ≠ [] := by
 cases k with
 | nil => simp [begB, ho] at h
 | cons u d0 k0 r0 =>
  simp only [begB, Bool.or_eq_true, decide_eq_true_eq, Bool.and_eq_true, Bool.not_eq_true'] at h
  rcases h with h | ⟨h1, h2⟩
  ·omega
  ·subst h1
   exact ⟨d0, k0, r0, rfl, by simpa using h2⟩
theorem first_of {w : World} {v : Value} {d0 : List UInt8} {k0 r0 : Fo} (h : FV DataI w (Lo w) v (.cons 0 d0 k0 r0)) (hd : d0 ≠ []) : ∃ b o c A0 c0 db, v = .slice (some ⟨b, o, none⟩) (Fo.cons 0 d0 k0 r0).len c ∧ b < w.heap.size ∧ (∀ W, Below w.heap.size w W → W.cell? ⟨b, o, none⟩ = some (.int .u64 0) ∧ W.cell? ⟨b, o + 1, none⟩ = some (.slice A0 d0.length c0) ∧ Rd W db (.slice A0 d0.length c0) d0) := by
 obtain ⟨b, o, c, t, d, k, rfl, hc, hS, hdr, -, ht, h0, ⟨dv, h1, db, hr, hs⟩, -⟩ := h.at (n := 0) (by simp [Fo.len])
 injection hdr with e1 e2 e3 e4
 subst e1 e2
 obtain ⟨A0, c0, rfl⟩ : ∃ A0 c0, dv = .slice A0 d0.length c0 := by obtain ⟨A0, c0, e, _⟩ := hr; exact ⟨A0, c0, e⟩
 have hp : 0 < d0.length := by
  cases d0 with
  | nil => exact absurd rfl hd
  | cons x l => simp
 have hdb : db < w.heap.size := hs hp
 rw [Nat.zero_mul, Nat.add_zero] at h0 h1
 exact ⟨b, o, c, A0, c0, db, rfl, hS, fun W hW => ⟨(hW.cell (p := ⟨b, o, none⟩) hS).trans h0, (hW.cell (p := ⟨b, o + 1, none⟩) hS).trans h1, hr.heap (hW.block db hdb)⟩⟩
theorem link_cases {t' t : Nat} {k' k d r : _} (h : linkB t' k' (.cons t d k r) = true) : t' < t ∨ (t' = t ∧ t % 2 = 1 ∧ ltY (keyD k') (keyD k) = true) := by
 simp only [linkB, Bool.or_eq_true, decide_eq_true_eq, Bool.and_eq_true] at h
 rcases h with h | ⟨⟨h1, h2⟩, h3⟩
 ·exact .inl h
 ·exact .inr ⟨h1, h2, h3⟩
set_option maxRecDepth 100000 in
set_option maxHeartbeats 8000000 in
theorem rises_any (f : Fo) : RisAt f := by
 refine Fo.byKids (P := RisAt) ?_ f
 clear f
 intro f hkids w v hv hl hr
 obtain ⟨A, c, rfl⟩ := hv.shape
 obtain ⟨n, hn⟩ : ∃ n, n = f.len := ⟨_, rfl⟩
 rw [← hn]
 have hl2 : n ≤ 1000000000000 := by have := f.len_le_cnt; omega
 have HV : Hid (FV DataI w (Lo w) (.slice A n c) f ∧ n = f.len) := Lib.hid ⟨by rw [hn]; exact hv, hn⟩
 have HK := Lib.hid hkids
 have HR := Lib.hid hr
 clear hv hkids hr hn
 go_enter Tryz.func17, Tryz.ntmps17
 go_wp2
 go_loopw [3] (fun i wr => ∃ j : Nat, j ≤ n ∧ i = .int .i64 (j : Int) ∧ Below w.heap.size w wr) (fun i _ => n - (intOf i).toNat)
 case atStart => exact ⟨0, Nat.zero_le _, rfl, Below.refl _ _⟩
 case round =>
  obtain ⟨j, hj, rfl, hB⟩ := hrel
  by_cases hlt : j < n
  ·have hvv := HV.out.1
   have hnn := HV.out.2
   rw [hnn] at hvv
   obtain ⟨b, o, c', t, d, k, hve, hcap, hSb, hdr, -, ht64, hk0, ⟨dv, hk1, db, hdv, hdS⟩, ⟨kv, hk2, hkv⟩⟩ := hvv.at (n := j) (by omega)
   injection hve with e1 e2 e3
   subst e1 e3
   obtain ⟨A1, c1, rfl⟩ : ∃ A1 c1, dv = .slice A1 d.length c1 := by obtain ⟨A1, c1, e, _⟩ := hdv; exact ⟨A1, c1, e⟩
   obtain ⟨A2, c2, rfl⟩ := hkv.shape
   obtain ⟨hbeg, hrk, hprev⟩ := ris_at HR.out hdr
   have hIH : RisAt k := by
    have h := Fo.kidsAll_drop j HK.out
    rw [hdr] at h
    exact h.1
   have hklen : k.cnt ≤ 1000000000000 := by
    have h := Fo.cnt_take_le j f
    rw [hdr] at h
    simp only [Fo.cnt] at h
    omega
   obtain ⟨kl, hkl⟩ : ∃ n, n = k.len := ⟨_, rfl⟩
   rw [← hkl] at hkv hk2
   have HBB : Hid (b < w.heap.size) := Lib.hid hSb
   have hC0 : wr.cell? ⟨b, o + j * 3, none⟩ = some (.int .u64 (t : Int)) := (hB.cell (p := ⟨b, o + j * 3, none⟩) hSb).trans hk0
   have hC1 : wr.cell? ⟨b, o + j * 3 + 1, none⟩ = some (.slice A1 d.length c1) := (hB.cell (p := ⟨b, o + j * 3 + 1, none⟩) hSb).trans hk1
   have hC2 : wr.cell? ⟨b, o + j * 3 + 2, none⟩ = some (.slice A2 kl c2) := (hB.cell (p := ⟨b, o + j * 3 + 2, none⟩) hSb).trans hk2
   have hal : Below w.heap.size w (wr.alloc (.cells #[.int .u64 (t : Int), .slice A1 d.length c1, .slice A2 kl c2] 48)) := hB.alloc hB.size _
   have hX4 := Blk.new wr 48 #[.int .u64 (t : Int), .slice A1 d.length c1, .slice A2 kl c2]
   have z0 := (hX4.cell 0).trans rfl
   have z1 := (hX4.cell 1).trans rfl
   have z2 := (hX4.cell 2).trans rfl
   have HX4 := Lib.hid hX4
   have HB4 := Lib.hid hal
   have HRK : Hid (∀ W, Below w.heap.size w W → Calls Tryz.prog 17 #[.slice A2 kl c2] W (Ans9 (.bool true) W)) := Lib.hid (fun W hW => hIH W _ (hkv.kept stays_I (fun g hg => hW.block g hg) (fun _ hg => Nat.lt_of_lt_of_le hg hW.size)) hklen hrk)
   have HPREV : Hid (∀ i, i + 1 = j → ∃ t' d' k', Fo.drop i f = .cons t' d' k' (.cons t d k (Fo.drop (j + 1) f)) ∧ begB t' k' = true ∧ linkB t' k' (.cons t d k (Fo.drop (j + 1) f)) = true) := Lib.hid (fun i hi => by
    obtain ⟨t', d', k', h1, h2, h3⟩ := hprev (by omega)
    rw [show j - 1 = i by omega] at h1
    exact ⟨t', d', k', h1, h2, h3⟩)
   have j1 : (0 : Int) ≤ (j : Int) := by omega
   have j2 : (j : Int) < (n : Int) := by omega
   have HKV := Lib.hid (And.intro hkv hkl)
   have HBG := Lib.hid hbeg
   clear hvv hdr hSb hk0 hk1 hk2 hdv hdS hkv hbeg hrk hprev hIH hklen hkl hal hX4 e2 hcap hB hnn
   by_cases hodd : t % 2 = 1
   ·obtain ⟨d0, k0, r0, hke, hd0⟩ := begs HBG.out hodd
    have hkv := HKV.out.1
    have hkll := HKV.out.2
    rw [hkll, hke] at hkv
    obtain ⟨b2, o2, cq, A0, c0, db0, hsl, hb2, hfst⟩ := first_of hkv hd0
    injection hsl with e1 e2 e3
    subst e1 e3
    have hkp : 0 < kl := by rw [hkll, hke]; simp [Fo.len]
    have HFST := Lib.hid (And.intro hfst (And.intro hke hd0))
    have g0 := (hfst _ HB4.out).1
    have g1 := (hfst _ HB4.out).2.1
    have e1 : ((t : Int) % 2 == 1) = true := by
     have h : (t : Int) % 2 = 1 := by omega
     rw [h]; rfl
    have e0 : ((t : Int) % 2 == 0) = false := beq_eq_false_iff_ne.2 (by omega)
    have l1 : ((kl : Int) == 0) = false := beq_eq_false_iff_ne.2 (by omega)
    have l2 : ((d0.length : Int) == 0) = false := beq_eq_false_iff_ne.2 (by have : d0.length ≠ 0 := fun h => hd0 (List.eq_nil_of_length_eq_zero h); omega)
    have l3 : decide (0 < kl) = true := decide_eq_true hkp
    have l4 : (0 : Int) < (kl : Int) := by omega
    have HODD := Lib.hid hodd
    clear hodd hke hd0 hkv hkll e2 hb2 hfst hkp
    go_wp2_with fail
    refine (HRK.out _ HB4.out).mono ?_
    rintro r w5 ⟨rfl, hb5⟩
    have HB5 := Lib.hid (HB4.out.trans (hb5.mono HB4.out.size))
    have HX5 : Hid (Blk w5 wr.heap.size 48 #[.int .u64 (t : Int), .slice A1 d.length c1, .slice (some ⟨b2, o2, none⟩) kl c2]) := Lib.hid (HX4.out.below hb5 HX4.out.lt)
    clear hb5 z0 z1 z2 hC0 hC1 hC2
    by_cases hj0 : j = 0
    ·subst hj0
     clear HPREV
     go_wp2
     go_roundw
     case rel => exact ⟨1, by omega, rfl, HB5.out⟩
     case measure => simp [intOf]; omega
    obtain ⟨i, hij⟩ : ∃ i, i + 1 = j := ⟨j - 1, by omega⟩
    obtain ⟨t', d', k', hd1, hbg', hlk⟩ := HPREV.out i hij
    have hvi := HV.out.1
    have hnn := HV.out.2
    rw [hnn] at hvi
    obtain ⟨b', o', cy, t1, d1, k1, hve', -, -, hdr1, -, -, g0', ⟨dv', g1', db', hdv', -⟩, ⟨kv', g2', hkv'⟩⟩ := hvi.at (n := i) (by omega)
    injection hve' with e1' e2' e3'
    injection e1' with e1'
    injection e1' with e4' e5'
    subst e4' e5'
    rw [hd1] at hdr1
    injection hdr1 with e6' e7' e8' e9'
    subst e6' e7' e8'
    obtain ⟨A3, c3, rfl⟩ : ∃ A1 c1, dv' = .slice A1 d'.length c1 := by obtain ⟨A1, c1, e, _⟩ := hdv'; exact ⟨A1, c1, e⟩
    obtain ⟨A4, c4, rfl⟩ := hkv'.shape
    obtain ⟨kl', hkl'⟩ : ∃ n, n = k'.len := ⟨_, rfl⟩
    rw [← hkl'] at hkv' g2'
    have hs : (j : Int) - 1 = (i : Int) := by omega
    have n0 : ((j : Int) == 0) = false := beq_eq_false_iff_ne.2 (by omega)
    have y1' : (0 : Int) ≤ (i : Int) := by omega
    have y2' : (i : Int) < (n : Int) := by omega
    have y0 : w5.cell? ⟨b, o + i * 3, none⟩ = _ := (HB5.out.cell (p := ⟨b, o + i * 3, none⟩) HBB.out).trans g0'
    have y1 := (HB5.out.cell (p := ⟨b, o + i * 3 + 1, none⟩) HBB.out).trans g1'
    have y2 := (HB5.out.cell (p := ⟨b, o + i * 3 + 2, none⟩) HBB.out).trans g2'
    have HKY := Lib.hid (And.intro hkv' (And.intro hkl' (And.intro hbg' (And.intro hlk hij))))
    clear hvi hnn e2' e3' e9' hd1 hbg' hlk g0' g1' g2' hdv' hkv' hkl' hij HPREV
    rcases link_cases HKY.out.2.2.2.1 with hlt' | ⟨heq', -, hlty⟩
    ·skip
     have HY6 : Hid (Blk (w5.alloc (.cells #[.int .u64 (t' : Int), .slice A3 d'.length c3, .slice A4 kl' c4] 48)) w5.heap.size 48 #[.int .u64 (t' : Int), .slice A3 d'.length c3, .slice A4 kl' c4]) := Lib.hid (Blk.new _ _ _)
     have HX6 : Hid (Blk (w5.alloc (.cells #[.int .u64 (t' : Int), .slice A3 d'.length c3, .slice A4 kl' c4] 48)) wr.heap.size 48 #[.int .u64 (t : Int), .slice A1 d.length c1, .slice (some ⟨b2, o2, none⟩) kl c2]) := Lib.hid (HX5.out.alloc _)
     have HB6 : Hid (Below w.heap.size w (w5.alloc (.cells #[.int .u64 (t' : Int), .slice A3 d'.length c3, .slice A4 kl' c4] 48))) := Lib.hid (HB5.out.alloc HB5.out.size _)
     have g1 : decide (t < t') = false := decide_eq_false (by omega)
     have g1b : ¬ (t < t') := by omega
     have g2 : ((t' : Int) == (t : Int)) = false := beq_eq_false_iff_ne.2 (by omega)
     have g2b : (t' == t) = false := beq_eq_false_iff_ne.2 (by omega)
     clear hlt'
     go_wp2_with fail
     refine wp_region_noPanic ?_
     refine wp_region_held_drew (S := fun _ => True) (by kernel_rfl) trivial (fun hS => ?_)
     refine held_more (S' := fun w' => Below (w5.alloc (.cells #[.int .u64 (t' : Int), .slice A3 d'.length c3, .slice A4 kl' c4] 48)).heap.size (w5.alloc (.cells #[.int .u64 (t' : Int), .slice A3 d'.length c3, .slice A4 kl' c4] 48)) w') (fun _ _ => trivial) _ _ _ _ ?_
     replace hS := (Below.refl (w5.alloc (.cells #[.int .u64 (t' : Int), .slice A3 d'.length c3, .slice A4 kl' c4] 48)).heap.size (w5.alloc (.cells #[.int .u64 (t' : Int), .slice A3 d'.length c3, .slice A4 kl' c4] 48))).drew
     refine tkH 0 hS ?_
     refine tkH 1 hS ?_ (hy := fun w hSw => by have z := ((HY6.out.below hSw HY6.out.lt).cell 0).trans rfl; (go_simp <;> with_reducible rfl))
     refine tkH 2 hS ?_
     refine tkH 3 hS ?_ (hy := fun w hSw => by have z := ((HX6.out.below hSw HX6.out.lt).cell 0).trans rfl; (go_simp <;> with_reducible rfl))
     refine tkH 4 hS ?_
     refine tkH 5 hS ?_
     refine tkH 6 hS ?_
     refine tkH 7 hS ?_ (hy := fun w hSw => by have z := ((HY6.out.below hSw HY6.out.lt).cell 0).trans rfl; (go_simp <;> with_reducible rfl))
     refine tkH 8 hS ?_
     refine tkH 9 hS ?_ (hy := fun w hSw => by have z := ((HX6.out.below hSw HX6.out.lt).cell 0).trans rfl; (go_simp <;> with_reducible rfl))
     refine tkH 10 hS ?_
     refine tkH 11 hS ?_
     refine tkHo 12 hS ?_
     refine tkHo 13 hS ?_
     refine tkHo 14 hS ?_
     refine tkHo 15 hS ?_
     refine tkHo 16 hS ?_
     refine tkHo 17 hS ?_
     refine tkHo 18 hS ?_
     refine tkHo 19 hS ?_
     refine tkHo 20 hS ?_
     refine tkHo 21 hS ?_
     refine tkHo 22 hS ?_
     refine tkHo 23 hS ?_
     refine tkHo 24 hS ?_
     refine tkHo 25 hS ?_
     refine tkHo 26 hS ?_
     refine tkHo 27 hS ?_
     refine tkHo 28 hS ?_
     refine tkHo 29 hS ?_
     refine tkHo 30 hS ?_
     refine tkH 31 hS ?_
     refine tkH 32 hS ?_
     refine wpAnyH_done (by kernel_rfl) ?_ _
     refine NoPanic.normal ?_
     clear hS
     have HBE : Hid (Below w.heap.size w (w5.alloc (.cells #[.int .u64 (t' : Int), .slice A3 d'.length c3, .slice A4 kl' c4] 48)).drew) := Lib.hid HB6.out.drew
     go_wp2
     go_roundw
     case rel => exact ⟨j + 1, by omega, by go_num, HBE.out⟩
     case measure => simp [intOf]; omega
    ·have hk'' := HKY.out.2.2.1
     obtain ⟨d0', k0', r0', hke', hd0'⟩ := begs hk'' (by have := HODD.out; omega)
     have hkv' := HKY.out.1
     have hkll' := HKY.out.2.1
     rw [hkll', hke'] at hkv'
     obtain ⟨b3, o3, cq', A5, c5, db5, hsl', hb3, hfst'⟩ := first_of hkv' hd0'
     injection hsl' with e1' e2' e3'
     subst e1' e3'
     have hkp' : 0 < kl' := by rw [hkll', hke']; simp [Fo.len]
     have hlt2 : Go.Op.bytesLess d0' d0 = true := by
      have h := hlty
      rw [hke', HFST.out.2.1] at h
      exact h
     have e0c : ((t : Int).tmod 2 == 0) = false := by rw [Int.tmod_eq_emod_of_nonneg (by omega)]; exact e0
     have l3' : decide (0 < kl') = true := decide_eq_true hkp'
     have l4' : (0 : Int) < (kl' : Int) := by omega
     have l5 : 0 < kl := by omega
     have g1 : decide (t < t') = false := decide_eq_false (by omega)
     have g1b : ¬ (t < t') := by omega
     have g2 : ((t' : Int) == (t : Int)) = true := by rw [heq']; exact beq_self_eq_true _
     have g2b : (t' == t) = true := by rw [heq']; exact beq_self_eq_true _
     have td : (txt d0).toList = d0 := txt_toList _
     have td' : (txt d0').toList = d0' := txt_toList _
     have HFY := Lib.hid hfst'
     have HY6 : Hid (Blk (w5.alloc (.cells #[.int .u64 (t' : Int), .slice A3 d'.length c3, .slice (some ⟨b3, o3, none⟩) kl' c4] 48)) w5.heap.size 48 #[.int .u64 (t' : Int), .slice A3 d'.length c3, .slice (some ⟨b3, o3, none⟩) kl' c4]) := Lib.hid (Blk.new _ _ _)
     have HX6 : Hid (Blk (w5.alloc (.cells #[.int .u64 (t' : Int), .slice A3 d'.length c3, .slice (some ⟨b3, o3, none⟩) kl' c4] 48)) wr.heap.size 48 #[.int .u64 (t : Int), .slice A1 d.length c1, .slice (some ⟨b2, o2, none⟩) kl c2]) := Lib.hid (HX5.out.alloc _)
     have HB6 : Hid (Below w.heap.size w (w5.alloc (.cells #[.int .u64 (t' : Int), .slice A3 d'.length c3, .slice (some ⟨b3, o3, none⟩) kl' c4] 48))) := Lib.hid (HB5.out.alloc HB5.out.size _)
     have HF6 : Hid (∀ W, Below (w5.alloc (.cells #[.int .u64 (t' : Int), .slice A3 d'.length c3, .slice (some ⟨b3, o3, none⟩) kl' c4] 48)).heap.size (w5.alloc (.cells #[.int .u64 (t' : Int), .slice A3 d'.length c3, .slice (some ⟨b3, o3, none⟩) kl' c4] 48)) W → (W.cell? ⟨b3, o3 + 1, none⟩ = some (.slice A5 d0'.length c5) ∧ Rd W db5 (.slice A5 d0'.length c5) d0') ∧ (W.cell? ⟨b2, o2 + 1, none⟩ = some (.slice A0 d0.length c0) ∧ Rd W db0 (.slice A0 d0.length c0) d0)) := Lib.hid (fun W hW => ⟨(HFY.out W (HB6.out.trans (hW.mono HB6.out.size))).2, (HFST.out.1 W (HB6.out.trans (hW.mono HB6.out.size))).2⟩)
     clear hk'' hke' hd0' hkv' hkll' e2' hb3 hfst' hlty heq' HFY
     go_wp2_with fail
     refine wp_region_noPanic ?_
     refine wp_region_held_drew (S := fun _ => True) (by kernel_rfl) trivial (fun hS => ?_)
     refine held_more (S' := fun w' => Below (w5.alloc (.cells #[.int .u64 (t' : Int), .slice A3 d'.length c3, .slice (some ⟨b3, o3, none⟩) kl' c4] 48)).heap.size (w5.alloc (.cells #[.int .u64 (t' : Int), .slice A3 d'.length c3, .slice (some ⟨b3, o3, none⟩) kl' c4] 48)) w') (fun _ _ => trivial) _ _ _ _ ?_
     replace hS := (Below.refl (w5.alloc (.cells #[.int .u64 (t' : Int), .slice A3 d'.length c3, .slice (some ⟨b3, o3, none⟩) kl' c4] 48)).heap.size (w5.alloc (.cells #[.int .u64 (t' : Int), .slice A3 d'.length c3, .slice (some ⟨b3, o3, none⟩) kl' c4] 48))).drew
     refine tkH 0 hS ?_
     refine tkH 1 hS ?_ (hy := fun w hSw => by have z := ((HY6.out.below hSw HY6.out.lt).cell 0).trans rfl; (go_simp <;> with_reducible rfl))
     refine tkH 2 hS ?_
     refine tkH 3 hS ?_ (hy := fun w hSw => by have z := ((HX6.out.below hSw HX6.out.lt).cell 0).trans rfl; (go_simp <;> with_reducible rfl))
     refine tkH 4 hS ?_
     refine tkH 5 hS ?_
     refine tkH 6 hS ?_
     refine tkH 7 hS ?_ (hy := fun w hSw => by have z := ((HY6.out.below hSw HY6.out.lt).cell 0).trans rfl; (go_simp <;> with_reducible rfl))
     refine tkH 8 hS ?_
     refine tkH 9 hS ?_ (hy := fun w hSw => by have z := ((HX6.out.below hSw HX6.out.lt).cell 0).trans rfl; (go_simp <;> with_reducible rfl))
     refine tkH 10 hS ?_
     refine tkH 11 hS ?_
     refine tkH 12 hS ?_
     refine tkH 13 hS ?_ (hy := fun w hSw => by have z := ((HX6.out.below hSw HX6.out.lt).cell 0).trans rfl; (go_simp <;> with_reducible rfl))
     refine tkH 14 hS ?_
     refine tkH 15 hS ?_
     refine tkH 16 hS ?_
     refine tkH 17 hS ?_
     refine tkH 18 hS ?_ (hy := fun w hSw => by have z := ((HY6.out.below hSw HY6.out.lt).cell 2).trans rfl; (go_simp <;> with_reducible rfl))
     refine tkH 19 hS ?_
     refine tkH 20 hS ?_
     refine tkH 21 hS ?_ (hy := fun w hSw => by have z := (HF6.out _ hSw).1.1; (go_simp <;> with_reducible rfl))
     refine tkH 22 hS ?_ (hy := fun w hSw => by have hc : (convert 30 9 _).run Tryz.prog _ = .ok (.string (txt d0')) _ := str_of (HF6.out _ hSw).1.2; (go_simp <;> with_reducible rfl))
     refine tkH 23 hS ?_
     refine tkH 24 hS ?_ (hy := fun w hSw => by have z := ((HX6.out.below hSw HX6.out.lt).cell 2).trans rfl; (go_simp <;> with_reducible rfl))
     refine tkH 25 hS ?_
     refine tkH 26 hS ?_
     refine tkH 27 hS ?_ (hy := fun w hSw => by have z := (HF6.out _ hSw).2.1; (go_simp <;> with_reducible rfl))
     refine tkH 28 hS ?_ (hy := fun w hSw => by have hc : (convert 30 9 _).run Tryz.prog _ = .ok (.string (txt d0)) _ := str_of (HF6.out _ hSw).2.2; (go_simp <;> with_reducible rfl))
     refine tkH 29 hS ?_
     refine tkH 30 hS ?_
     refine tkH 31 hS ?_
     refine tkH 32 hS ?_
     refine wpAnyH_done (by kernel_rfl) ?_ _
     refine NoPanic.normal ?_
     clear hS
     have HBE : Hid (Below w.heap.size w (w5.alloc (.cells #[.int .u64 (t' : Int), .slice A3 d'.length c3, .slice (some ⟨b3, o3, none⟩) kl' c4] 48)).drew) := Lib.hid HB6.out.drew
     go_wp2
     go_roundw
     case rel => exact ⟨j + 1, by omega, by go_num, HBE.out⟩
     case measure => simp [intOf]; omega
   ·have e1 : ((t : Int) % 2 == 1) = false := beq_eq_false_iff_ne.2 (by omega)
    go_wp2_with fail
    refine (HRK.out _ HB4.out).mono ?_
    rintro r w5 ⟨rfl, hb5⟩
    have HB5 := Lib.hid (HB4.out.trans (hb5.mono HB4.out.size))
    have HX5 : Hid (Blk w5 wr.heap.size 48 #[.int .u64 (t : Int), .slice A1 d.length c1, .slice A2 kl c2]) := Lib.hid (HX4.out.below hb5 HX4.out.lt)
    clear hb5 z0 z1 z2 hC0 hC1 hC2
    by_cases hj0 : j = 0
    ·subst hj0
     clear HPREV
     go_wp2
     go_roundw
     case rel => exact ⟨1, by omega, rfl, HB5.out⟩
     case measure => simp [intOf]; omega
    obtain ⟨i, hij⟩ : ∃ i, i + 1 = j := ⟨j - 1, by omega⟩
    obtain ⟨t', d', k', hd1, hbg', hlk⟩ := HPREV.out i hij
    have hvi := HV.out.1
    have hnn := HV.out.2
    rw [hnn] at hvi
    obtain ⟨b', o', cy, t1, d1, k1, hve', -, -, hdr1, -, -, g0', ⟨dv', g1', db', hdv', -⟩, ⟨kv', g2', hkv'⟩⟩ := hvi.at (n := i) (by omega)
    injection hve' with e1' e2' e3'
    injection e1' with e1'
    injection e1' with e4' e5'
    subst e4' e5'
    rw [hd1] at hdr1
    injection hdr1 with e6' e7' e8' e9'
    subst e6' e7' e8'
    obtain ⟨A3, c3, rfl⟩ : ∃ A1 c1, dv' = .slice A1 d'.length c1 := by obtain ⟨A1, c1, e, _⟩ := hdv'; exact ⟨A1, c1, e⟩
    obtain ⟨A4, c4, rfl⟩ := hkv'.shape
    obtain ⟨kl', hkl'⟩ : ∃ n, n = k'.len := ⟨_, rfl⟩
    rw [← hkl'] at hkv' g2'
    have hs : (j : Int) - 1 = (i : Int) := by omega
    have n0 : ((j : Int) == 0) = false := beq_eq_false_iff_ne.2 (by omega)
    have y1' : (0 : Int) ≤ (i : Int) := by omega
    have y2' : (i : Int) < (n : Int) := by omega
    have y0 : w5.cell? ⟨b, o + i * 3, none⟩ = _ := (HB5.out.cell (p := ⟨b, o + i * 3, none⟩) HBB.out).trans g0'
    have y1 := (HB5.out.cell (p := ⟨b, o + i * 3 + 1, none⟩) HBB.out).trans g1'
    have y2 := (HB5.out.cell (p := ⟨b, o + i * 3 + 2, none⟩) HBB.out).trans g2'
    have HKY := Lib.hid (And.intro hkv' (And.intro hkl' (And.intro hbg' (And.intro hlk hij))))
    clear hvi hnn e2' e3' e9' hd1 hbg' hlk g0' g1' g2' hdv' hkv' hkl' hij HPREV
    have hlt' : t' < t := by
     rcases link_cases HKY.out.2.2.2.1 with h | ⟨-, h, -⟩
     ·exact h
     ·exact absurd h hodd
    clear hodd
    have HY6 : Hid (Blk (w5.alloc (.cells #[.int .u64 (t' : Int), .slice A3 d'.length c3, .slice A4 kl' c4] 48)) w5.heap.size 48 #[.int .u64 (t' : Int), .slice A3 d'.length c3, .slice A4 kl' c4]) := Lib.hid (Blk.new _ _ _)
    have HX6 : Hid (Blk (w5.alloc (.cells #[.int .u64 (t' : Int), .slice A3 d'.length c3, .slice A4 kl' c4] 48)) wr.heap.size 48 #[.int .u64 (t : Int), .slice A1 d.length c1, .slice A2 kl c2]) := Lib.hid (HX5.out.alloc _)
    have HB6 : Hid (Below w.heap.size w (w5.alloc (.cells #[.int .u64 (t' : Int), .slice A3 d'.length c3, .slice A4 kl' c4] 48))) := Lib.hid (HB5.out.alloc HB5.out.size _)
    have g1 : decide (t < t') = false := decide_eq_false (by omega)
    have g1b : ¬ (t < t') := by omega
    have g2 : ((t' : Int) == (t : Int)) = false := beq_eq_false_iff_ne.2 (by omega)
    have g2b : (t' == t) = false := beq_eq_false_iff_ne.2 (by omega)
    clear hlt'
    go_wp2_with fail
    refine wp_region_noPanic ?_
    refine wp_region_held_drew (S := fun _ => True) (by kernel_rfl) trivial (fun hS => ?_)
    refine held_more (S' := fun w' => Below (w5.alloc (.cells #[.int .u64 (t' : Int), .slice A3 d'.length c3, .slice A4 kl' c4] 48)).heap.size (w5.alloc (.cells #[.int .u64 (t' : Int), .slice A3 d'.length c3, .slice A4 kl' c4] 48)) w') (fun _ _ => trivial) _ _ _ _ ?_
    replace hS := (Below.refl (w5.alloc (.cells #[.int .u64 (t' : Int), .slice A3 d'.length c3, .slice A4 kl' c4] 48)).heap.size (w5.alloc (.cells #[.int .u64 (t' : Int), .slice A3 d'.length c3, .slice A4 kl' c4] 48))).drew
    refine tkH 0 hS ?_
    refine tkH 1 hS ?_ (hy := fun w hSw => by have z := ((HY6.out.below hSw HY6.out.lt).cell 0).trans rfl; (go_simp <;> with_reducible rfl))
    refine tkH 2 hS ?_
    refine tkH 3 hS ?_ (hy := fun w hSw => by have z := ((HX6.out.below hSw HX6.out.lt).cell 0).trans rfl; (go_simp <;> with_reducible rfl))
    refine tkH 4 hS ?_
    refine tkH 5 hS ?_
    refine tkH 6 hS ?_
    refine tkH 7 hS ?_ (hy := fun w hSw => by have z := ((HY6.out.below hSw HY6.out.lt).cell 0).trans rfl; (go_simp <;> with_reducible rfl))
    refine tkH 8 hS ?_
    refine tkH 9 hS ?_ (hy := fun w hSw => by have z := ((HX6.out.below hSw HX6.out.lt).cell 0).trans rfl; (go_simp <;> with_reducible rfl))
    refine tkH 10 hS ?_
    refine tkH 11 hS ?_
    refine tkHo 12 hS ?_
    refine tkHo 13 hS ?_
    refine tkHo 14 hS ?_
    refine tkHo 15 hS ?_
    refine tkHo 16 hS ?_
    refine tkHo 17 hS ?_
    refine tkHo 18 hS ?_
    refine tkHo 19 hS ?_
    refine tkHo 20 hS ?_
    refine tkHo 21 hS ?_
    refine tkHo 22 hS ?_
    refine tkHo 23 hS ?_
    refine tkHo 24 hS ?_
    refine tkHo 25 hS ?_
    refine tkHo 26 hS ?_
    refine tkHo 27 hS ?_
    refine tkHo 28 hS ?_
    refine tkHo 29 hS ?_
    refine tkHo 30 hS ?_
    refine tkH 31 hS ?_
    refine tkH 32 hS ?_
    refine wpAnyH_done (by kernel_rfl) ?_ _
    refine NoPanic.normal ?_
    clear hS
    have HBE : Hid (Below w.heap.size w (w5.alloc (.cells #[.int .u64 (t' : Int), .slice A3 d'.length c3, .slice A4 kl' c4] 48)).drew) := Lib.hid HB6.out.drew
    go_wp2
    go_roundw
    case rel => exact ⟨j + 1, by omega, by go_num, HBE.out⟩
    case measure => simp [intOf]; omega
  ·obtain rfl : j = n := by omega
   have HB := Lib.hid hB
   clear hB
   go_wp2
   go_ret
   exact ⟨rfl, HB.out⟩
end Go.Proofs.YtodlhgflfcadmaaGreat
namespace Go.Proofs.YtodlhgflfcadmaaGreat
open Go.RowKit
def sysD : NdD := ⟨nSystem, [], 5, 0, [97, 98]⟩
def sysF : NdF := .cons sysD .nil .nil
def sysI : Fo := .cons 2 [97, 98] .nil .nil
theorem ex13a : CheckX 3 (zeroT, sysF) = (0, []) := by decide
theorem ex13b : CheckX 0 (zeroT, sysF) = (28, []) := by decide
theorem ex13c : ItemsX 3 (zeroT, sysF) = sysI := by rfl
theorem ex13d : encV 9 3 ++ sysI.all = [3, 2, 2, 97, 98] := by decide
theorem row13 (w : World) (g : Nat) (hb : Blk w g 27 #[.string ⟨#[115, 121, 115, 116, 101, 109]⟩, .string ⟨#[]⟩, .int .i64 5, .int .u64 0, .string ⟨#[97, 98]⟩, .slice none 0 0]) : RowT w.heap.size w (.slice (some ⟨g, 0, none⟩) 1 1) sysF :=
 FrV.lit (e := 27) (xs := ndC sysD (.slice none 0 0)) (f := sysF) hb.lt hb ⟨_, [], rfl, LieB.make (a := sysD) (f := .nil) (FrV.empty _ _ _), rfl⟩ (Nat.le_refl _)
theorem ok13 : OkF sysF := ⟨⟨by decide, by decide, by decide, by decide, by decide, by decide⟩, trivial, trivial⟩
theorem bytes13 (w : World) (g : Nat) (hb : Blk w g 27 #[.string ⟨#[115, 121, 115, 116, 101, 109]⟩, .string ⟨#[]⟩, .int .i64 5, .int .u64 0, .string ⟨#[97, 98]⟩, .slice none 0 0]) : Calls Tryz.prog 9 #[.int .i64 3, .agg #[.string ⟨#[]⟩, .string ⟨#[]⟩, .int .i64 0, .int .u64 0, .string ⟨#[]⟩, .slice (some ⟨g, 0, none⟩) 1 1]] w (fun r w' => ∃ u, r = .returned (.tuple #[u, .int .i64 0]) ∧ Own w' w.heap.size u [3, 2, 2, 97, 98] ∧ Below w.heap.size w w') := by
 have h := vbytes_any 3 3 zeroT sysF (some ⟨g, 0, none⟩) 1 w (row13 w g hb) (by decide) ok13 (fun _ => by rw [ex13c]; exact ⟨by decide, by decide, by decide, rfl⟩)
 refine h.mono fun r w' h => ?_
 unfold BytW at h
 rw [ex13a, if_pos rfl, ex13c] at h
 obtain ⟨u, h1, h2, h3⟩ := h
 rw [if_pos (by decide)] at h1 h2
 rw [ex13d] at h2
 exact ⟨u, h1, h2, h3⟩
theorem nobytes13 (w : World) (g : Nat) (hb : Blk w g 27 #[.string ⟨#[115, 121, 115, 116, 101, 109]⟩, .string ⟨#[]⟩, .int .i64 5, .int .u64 0, .string ⟨#[97, 98]⟩, .slice none 0 0]) : Calls Tryz.prog 9 #[.int .i64 0, .agg #[.string ⟨#[]⟩, .string ⟨#[]⟩, .int .i64 0, .int .u64 0, .string ⟨#[]⟩, .slice (some ⟨g, 0, none⟩) 1 1]] w (fun r w' => r = .returned (.tuple #[.slice none 0 0, .int .i64 28]) ∧ Below w.heap.size w w') := by
 have h := vbytes_any 0 0 zeroT sysF (some ⟨g, 0, none⟩) 1 w (row13 w g hb) (by decide) ok13 (fun h => by rw [ex13b] at h; cases h)
 refine h.mono fun r w' h => ?_
 unfold BytW at h
 rw [ex13b, if_neg (by decide)] at h
 exact h
theorem items13 (w : World) (g : Nat) (hb : Blk w g 27 #[.string ⟨#[115, 121, 115, 116, 101, 109]⟩, .string ⟨#[]⟩, .int .i64 5, .int .u64 0, .string ⟨#[97, 98]⟩, .slice none 0 0]) : Calls Tryz.prog 13 #[.int .i64 3, .agg #[.string ⟨#[]⟩, .string ⟨#[]⟩, .int .i64 0, .int .u64 0, .string ⟨#[]⟩, .slice (some ⟨g, 0, none⟩) 1 1]] w (fun r w' => ∃ gi ci, r = .returned (.slice (some ⟨gi, 0, none⟩) 1 ci) ∧ gi < w'.heap.size ∧ w'.cell? ⟨gi, 0, none⟩ = some (.int .u64 2) ∧ Below w.heap.size w w') := by
 have h := vitems_any 3 zeroT sysF (some ⟨g, 0, none⟩) 1 w (row13 w g hb) (by decide) ok13
 rw [ex13c] at h
 refine h.mono fun r w' h => ?_
 obtain ⟨v, h1, h2, h3⟩ := h
 have hf := h2.fv stays_I
 have hlt := h2.lt
 obtain ⟨xs, o1, o2⟩ := h2
 rcases o1.2 with ⟨_, h0⟩ | ⟨gi, cap, cur, rfl, _, _, _⟩
 ·exact absurd h0 (by decide)
 ·obtain ⟨b, o, c, t, d, k, hve, _, _, hdr, _, _, k0, _⟩ := hf.at (n := 0) (by decide)
  injection hve with e1 e2 e3
  injection e1 with e1
  injection e1 with e4 e5
  subst e4 e5
  injection hdr with e6
  subst e6
  exact ⟨gi, cap, h1, (hlt gi rfl).2, k0, h3⟩
set_option maxRecDepth 100000 in
set_option maxHeartbeats 4000000 in
theorem awake13_any (w : World) : Calls Tryz.prog 7 #[] w (Ans9 (.bool true) w) := by
 have hR := (Blk.new w 27 #[.string ⟨#[115, 121, 115, 116, 101, 109]⟩, .string ⟨#[]⟩, .int .i64 5, .int .u64 0, .string ⟨#[97, 98]⟩, .slice none 0 0]).alloc (.cells #[.string ⟨#[]⟩, .string ⟨#[]⟩, .int .i64 0, .int .u64 0, .string ⟨#[]⟩, .slice (some ⟨w.heap.size, 0, none⟩) 1 1] 27)
 have hT : Blk ((w.alloc (.cells #[.string ⟨#[115, 121, 115, 116, 101, 109]⟩, .string ⟨#[]⟩, .int .i64 5, .int .u64 0, .string ⟨#[97, 98]⟩, .slice none 0 0] 27)).alloc (.cells #[.string ⟨#[]⟩, .string ⟨#[]⟩, .int .i64 0, .int .u64 0, .string ⟨#[]⟩, .slice (some ⟨w.heap.size, 0, none⟩) 1 1] 27)) (w.heap.size + 1) 27 #[.string ⟨#[]⟩, .string ⟨#[]⟩, .int .i64 0, .int .u64 0, .string ⟨#[]⟩, .slice (some ⟨w.heap.size, 0, none⟩) 1 1] := Blk.newA (w := (w.alloc (.cells #[.string ⟨#[115, 121, 115, 116, 101, 109]⟩, .string ⟨#[]⟩, .int .i64 5, .int .u64 0, .string ⟨#[97, 98]⟩, .slice none 0 0] 27))) (by simp) _ _
 have hB2 : Below w.heap.size w ((w.alloc (.cells #[.string ⟨#[115, 121, 115, 116, 101, 109]⟩, .string ⟨#[]⟩, .int .i64 5, .int .u64 0, .string ⟨#[97, 98]⟩, .slice none 0 0] 27)).alloc (.cells #[.string ⟨#[]⟩, .string ⟨#[]⟩, .int .i64 0, .int .u64 0, .string ⟨#[]⟩, .slice (some ⟨w.heap.size, 0, none⟩) 1 1] 27)) := ((Below.refl _ _).alloc (Nat.le_refl _) _).alloc (by simp) _
 have HR := Lib.hid hR
 have HT := Lib.hid hT
 have HB2 := Lib.hid hB2
 have HA := Lib.hid (bytes13 ((w.alloc (.cells #[.string ⟨#[115, 121, 115, 116, 101, 109]⟩, .string ⟨#[]⟩, .int .i64 5, .int .u64 0, .string ⟨#[97, 98]⟩, .slice none 0 0] 27)).alloc (.cells #[.string ⟨#[]⟩, .string ⟨#[]⟩, .int .i64 0, .int .u64 0, .string ⟨#[]⟩, .slice (some ⟨w.heap.size, 0, none⟩) 1 1] 27)) w.heap.size hR)
 have HI : Hid (∀ W, Below ((w.alloc (.cells #[.string ⟨#[115, 121, 115, 116, 101, 109]⟩, .string ⟨#[]⟩, .int .i64 5, .int .u64 0, .string ⟨#[97, 98]⟩, .slice none 0 0] 27)).alloc (.cells #[.string ⟨#[]⟩, .string ⟨#[]⟩, .int .i64 0, .int .u64 0, .string ⟨#[]⟩, .slice (some ⟨w.heap.size, 0, none⟩) 1 1] 27)).heap.size ((w.alloc (.cells #[.string ⟨#[115, 121, 115, 116, 101, 109]⟩, .string ⟨#[]⟩, .int .i64 5, .int .u64 0, .string ⟨#[97, 98]⟩, .slice none 0 0] 27)).alloc (.cells #[.string ⟨#[]⟩, .string ⟨#[]⟩, .int .i64 0, .int .u64 0, .string ⟨#[]⟩, .slice (some ⟨w.heap.size, 0, none⟩) 1 1] 27)) W → Calls Tryz.prog 13 #[.int .i64 3, .agg #[.string ⟨#[]⟩, .string ⟨#[]⟩, .int .i64 0, .int .u64 0, .string ⟨#[]⟩, .slice (some ⟨w.heap.size, 0, none⟩) 1 1]] W (fun r w' => ∃ gi ci, r = .returned (.slice (some ⟨gi, 0, none⟩) 1 ci) ∧ gi < w'.heap.size ∧ w'.cell? ⟨gi, 0, none⟩ = some (.int .u64 2) ∧ Below W.heap.size W w')) := Lib.hid (fun W hW => items13 W w.heap.size (HR.out.below hW HR.out.lt))
 have HN : Hid (∀ W, Below ((w.alloc (.cells #[.string ⟨#[115, 121, 115, 116, 101, 109]⟩, .string ⟨#[]⟩, .int .i64 5, .int .u64 0, .string ⟨#[97, 98]⟩, .slice none 0 0] 27)).alloc (.cells #[.string ⟨#[]⟩, .string ⟨#[]⟩, .int .i64 0, .int .u64 0, .string ⟨#[]⟩, .slice (some ⟨w.heap.size, 0, none⟩) 1 1] 27)).heap.size ((w.alloc (.cells #[.string ⟨#[115, 121, 115, 116, 101, 109]⟩, .string ⟨#[]⟩, .int .i64 5, .int .u64 0, .string ⟨#[97, 98]⟩, .slice none 0 0] 27)).alloc (.cells #[.string ⟨#[]⟩, .string ⟨#[]⟩, .int .i64 0, .int .u64 0, .string ⟨#[]⟩, .slice (some ⟨w.heap.size, 0, none⟩) 1 1] 27)) W → Calls Tryz.prog 9 #[.int .i64 0, .agg #[.string ⟨#[]⟩, .string ⟨#[]⟩, .int .i64 0, .int .u64 0, .string ⟨#[]⟩, .slice (some ⟨w.heap.size, 0, none⟩) 1 1]] W (fun r w' => r = .returned (.tuple #[.slice none 0 0, .int .i64 28]) ∧ Below W.heap.size W w')) := Lib.hid (fun W hW => nobytes13 W w.heap.size (HR.out.below hW HR.out.lt))
 have p0 := (hT.cell 0).trans rfl
 have p1 := (hT.cell 1).trans rfl
 have p2 := (hT.cell 2).trans rfl
 have p3 := (hT.cell 3).trans rfl
 have p4 := (hT.cell 4).trans rfl
 have p5 := (hT.cell 5).trans rfl
 clear hR hT hB2
 go_enter Tryz.func7, Tryz.ntmps7
 go_wp2_with fail
 refine HA.out.mono ?_
 rintro r w3 ⟨u, rfl, ho, hb3⟩
 have HU := Lib.hid (ho.rd' (by decide))
 have HC3 := Lib.hid hb3
 have HTx := Lib.hid (HT.out.below hb3 HT.out.lt)
 clear ho hb3 p0 p1 p2 p3 p4 p5
 have p0 := (HTx.out.cell 0).trans rfl
 have p1 := (HTx.out.cell 1).trans rfl
 have p2 := (HTx.out.cell 2).trans rfl
 have p3 := (HTx.out.cell 3).trans rfl
 have p4 := (HTx.out.cell 4).trans rfl
 have p5 := (HTx.out.cell 5).trans rfl
 go_wp2_with fail
 refine (HI.out _ HC3.out).mono ?_
 rintro r w4 ⟨gi, ci, rfl, hgi, hci, hb4⟩
 have HC4 := Lib.hid (HC3.out.trans (hb4.mono HC3.out.size))
 have HTx := Lib.hid (HTx.out.below hb4 HTx.out.lt)
 have HU4 : Hid (∃ d, Rd w4 d u [3, 2, 2, 97, 98]) := Lib.hid (by obtain ⟨d, _, h⟩ := HU.out; exact ⟨d, h.below' hb4⟩)
 have HG := Lib.hid (And.intro hgi hci)
 clear hgi hci hb4 p0 p1 p2 p3 p4 p5
 have p0 := (HTx.out.cell 0).trans rfl
 have p1 := (HTx.out.cell 1).trans rfl
 have p2 := (HTx.out.cell 2).trans rfl
 have p3 := (HTx.out.cell 3).trans rfl
 have p4 := (HTx.out.cell 4).trans rfl
 have p5 := (HTx.out.cell 5).trans rfl
 go_wp2_with fail
 refine (HN.out _ HC4.out).mono ?_
 rintro r w5 ⟨rfl, hb5⟩
 have HB5 := Lib.hid (HB2.out.trans ((HC4.out.trans (hb5.mono HC4.out.size)).mono HB2.out.size))
 have hg : w5.cell? ⟨gi, 0, none⟩ = some (.int .u64 2) := (hb5.cell (p := ⟨gi, 0, none⟩) HG.out.1).trans HG.out.2
 have hc : (convert 30 9 u).run Tryz.prog w5 = .ok (.string ⟨#[3, 2, 2, 97, 98]⟩) w5 := by obtain ⟨d, h⟩ := HU4.out; exact str_of (h.below' hb5)
 clear hb5 p0 p1 p2 p3 p4 p5
 go_wp2
 go_ret
 exact ⟨rfl, HB5.out⟩
set_option maxRecDepth 100000 in
set_option maxHeartbeats 4000000 in
theorem packRises_walk (v : Int) (a : NdD) (f : NdF) (A : Option Addr) (c : Nat) (w : World) (hrow : RowT w.heap.size w (.slice A f.len c) f) (hf : f.size ≤ 999990) (hok : OkF f) :
  Calls Tryz.prog 5 #[.int .i64 v, .agg (cN a (.slice A f.len c))] w (Ans9 (.bool true) w) := by
 have hx1 : Below w.heap.size w (w.alloc (.cells (cN a (.slice A f.len c)) 27)) := (Below.refl _ _).alloc (Nat.le_refl _) _
 have HAU := Lib.hid (awake13_any (w.alloc (.cells (cN a (.slice A f.len c)) 27)))
 have HX1 := Lib.hid hx1
 have HBK := Lib.hid (Blk.new w 27 (cN a (.slice A f.len c)))
 have HROW := Lib.hid (And.intro hrow (And.intro hf hok))
 clear hx1 hrow hf hok
 go_enter Tryz.func5, Tryz.ntmps5
 go_wp2_with fail
 refine HAU.out.mono ?_
 rintro r w1 ⟨rfl, hb1⟩
 have HB1 := Lib.hid (HX1.out.trans (hb1.mono HX1.out.size))
 have HTx := Lib.hid (HBK.out.below hb1 HBK.out.lt)
 clear hb1
 have p0 := (HTx.out.cell 0).trans rfl
 have p1 := (HTx.out.cell 1).trans rfl
 have p2 := (HTx.out.cell 2).trans rfl
 have p3 := (HTx.out.cell 3).trans rfl
 have p4 := (HTx.out.cell 4).trans rfl
 have p5 := (HTx.out.cell 5).trans rfl
 go_wp2_with fail
 refine (small13_any a f A c _ (HROW.out.1.under HB1.out (Nat.le_refl _) HB1.out.size) (by have := HROW.out.2.1; omega)).mono ?_
 rintro r w2 ⟨rfl, hb2⟩
 have HB2 := Lib.hid (HB1.out.trans (hb2.mono HB1.out.size))
 have HTx := Lib.hid (HTx.out.below hb2 HTx.out.lt)
 clear hb2 p0 p1 p2 p3 p4 p5
 cases hsm : decide (f.size + 1 ≤ 300) with
 | false =>
  clear hsm
  go_wp2
  go_ret
  exact ⟨rfl, HB2.out⟩
 | true =>
  clear hsm
  have HIT := Lib.hid (vitems_any v a f A c w2 (HROW.out.1.under HB2.out (Nat.le_refl _) HB2.out.size) (by have := HROW.out.2.1; omega) HROW.out.2.2)
  have HRI := Lib.hid (items_rise v (a, f))
  have HCN : Hid ((ItemsX v (a, f)).cnt ≤ 1000000000000) := Lib.hid (by have h := cnt_items v (a, f); have h2 := HROW.out.2.1; simp only at h; omega)
  obtain ⟨F, hF⟩ : ∃ F, F = ItemsX v (a, f) := ⟨_, rfl⟩
  rw [← hF] at HIT HRI HCN
  clear hF
  have p0 := (HTx.out.cell 0).trans rfl
  have p1 := (HTx.out.cell 1).trans rfl
  have p2 := (HTx.out.cell 2).trans rfl
  have p3 := (HTx.out.cell 3).trans rfl
  have p4 := (HTx.out.cell 4).trans rfl
  have p5 := (HTx.out.cell 5).trans rfl
  go_wp2_with fail
  refine HIT.out.mono ?_
  rintro r w3 ⟨u3, rfl, hu3, hb3⟩
  have HB3 := Lib.hid (HB2.out.trans (hb3.mono HB2.out.size))
  have HRS := Lib.hid (rises_any F w3 u3 ((hu3.fv stays_I).kept stays_I (fun _ _ => rfl) (fun _ hg => hg.2)) HCN.out HRI.out)
  clear hb3 hu3 p0 p1 p2 p3 p4 p5
  go_wp2_with fail
  refine HRS.out.mono ?_
  rintro r w4 ⟨rfl, hb4⟩
  have HB4 := Lib.hid (HB3.out.trans (hb4.mono HB3.out.size))
  clear hb4
  go_wp2
  go_ret
  exact ⟨rfl, HB4.out⟩
end Go.Proofs.YtodlhgflfcadmaaGreat
