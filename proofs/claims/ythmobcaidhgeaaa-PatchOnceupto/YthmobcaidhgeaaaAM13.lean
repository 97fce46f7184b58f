/- TreSrtR -/
import Derived.Test.YthmobcaidhgeaaaAM6
set_option linter.unusedSimpArgs false
set_option linter.unusedVariables false
set_option maxRecDepth 100000
set_option maxHeartbeats 8000000
namespace Go.Proofs.Ythmobcaidhgeaaa
open Go.RowKit
theorem sortA_app (a : NdD) (k : NdF) : ∀ (r g : NdF), sortA g (r.app (.cons a k .nil)) = insB (a, sortA .nil k) (sortA g r) := by
 intro r
 induction r with
 | nil => intro g; rfl
 | cons b q r _ ih => intro g; simp only [Fr.app, sortA]; rw [ih]
theorem sort_step {f : NdF} {j : Nat} {a : NdD} {k : NdF} (h : f.get? j = some (a, k)) : sortA .nil (Fr.take (j + 1) f) = insB (a, sortA .nil k) (sortA .nil (Fr.take j f)) := by
 rw [(Fr.get_drop h).2, sortA_app]
theorem ins_is {a : NdD} {k K : NdF} {m j : Nat} (hj : K.len = j) (hp : posD a K j = m) : ((Fr.take m K).app (oneF (a, k))).app (Fr.drop m K) = insB (a, k) K := by
 unfold insB withF
 simp only
 rw [hj, hp, Nat.add_zero, Fr.app_assoc]
theorem OwnG.some_ {α : Type} {D : RdOf α} {e : TypeId} {K p : Nat} {w : World} {base : Nat} {S N : Nat → Prop} {v : Value} {f : Fr α} (h : OwnG D e K p w base S N v f) (h0 : 0 < f.len) : ∃ g c, v = .slice (some ⟨g, 0, none⟩) f.len c ∧ f.len ≤ c := by
 obtain ⟨_, _, xs, h1, _⟩ := h
 rcases h1.2 with ⟨rfl, hz⟩ | ⟨g, cap, cur, rfl, _, _, hnc, _⟩
 ·omega
 ·exact ⟨g, cap, rfl, hnc⟩
theorem back_nil9 {W : World} {S : Nat → Prop} {K : NdF} (A : Option Addr) (c : Nat) (hj : K.len = 0) : FrV NdT 6 5 W S noB (.slice A 0 c) (Fr.drop 0 K) := by
 cases K with
 | nil => exact FrV.none_ _ _
 | cons => simp [Fr.len] at hj
theorem back_all9 {W : World} {S : Nat → Prop} {K : NdF} (A : Option Addr) (c m : Nat) (hj : K.len = m) : FrV NdT 6 5 W S noB (.slice A 0 c) (Fr.drop m K) := by
 rw [← hj, Fr.drop_all]
 exact FrV.none_ _ _
theorem back_part9 {W : World} {S : Nat → Prop} {K : NdF} {g L c m j : Nat} (hj : K.len = j) (hm : m ≤ j) (h : FrV NdT 6 5 W S noB (.slice (some ⟨g, 0, none⟩) L c) K) : FrV NdT 6 5 W S noB (.slice (some ⟨g, m * 6, none⟩) (j - m) (c - m)) (Fr.drop m K) := by
 have h2 := FrV.back (n := m) (by omega) h
 rw [hj, Nat.zero_add] at h2
 exact h2
def SortP9 (f : NdF) : Prop := ∀ (a : NdD) (A : Option Addr) (c : Nat) (w : World), RowT w.heap.size w (.slice A f.len c) f → f.size ≤ 1000000 →
  Calls Try.prog 18 #[.agg (cN a (.slice A f.len c))] w (PTreP1 0 (a, sortA .nil f) w)
def SortRel (f : NdF) (w wr : World) (j : Nat) (kv : Value) : Prop := FrV NdT 6 5 wr (Zone 0 (w.heap.size + 2) wr.heap.size) noB kv (sortA .nil (Fr.take j f)) ∧ ((kv = .slice none 0 0 ∧ j = 0) ∨ ∃ g c, kv = .slice (some ⟨g, 0, none⟩) j c ∧ j ≤ c) ∧ w.heap.size + 2 ≤ wr.heap.size
theorem rsortf_any (f : NdF) : SortP9 f := by
 refine Fr.byKids (P := SortP9) ?_ f
 clear f
 intro f hkids a A c w hk hsz
 obtain ⟨h1, h2, h3, h4⟩ := get_boxes a f A c w (LieB.make hk)
 have HI := hHd hkids
 have HK : Hid (RowT w.heap.size w (.slice A f.len c) f) := hHd hk
 have HZS : Hid (f.size ≤ 1000000) := hHd hsz
 have HQ := hHd (And.intro h1 (And.intro h2 h3))
 have hs0 : ((w.alloc (.cells (cN a (.slice A f.len c)) 27)).alloc (.cells #[.string ⟨#[]⟩, .string ⟨#[]⟩, .int .i64 0, .int .u64 0, .string ⟨#[]⟩, .slice none 0 0] 27)).heap.size = w.heap.size + 2 := by simp
 have HS0 := hHd hs0
 clear hkids hk hsz h1 h2 h3 h4 hs0
 go_enter Try.func18, Try.ntmps18
 go_wp2
 go_loopw [3, 4] (fun kv i wr => ∃ j : Nat, j ≤ f.len ∧ i = .int .i64 (j : Int) ∧ Blk wr w.heap.size 27 (cN a (.slice A f.len c)) ∧ Blk wr (w.heap.size + 1) 27 #[.string ⟨#[]⟩, .string ⟨#[]⟩, .int .i64 0, .int .u64 0, .string ⟨#[]⟩, .slice none 0 0] ∧ Below w.heap.size w wr ∧ Hid (SortRel f w wr j kv)) (fun _ i _ => f.len - (intOf i).toNat)
 case atStart => exact ⟨0, Nat.zero_le _, rfl, HQ.out.1, HQ.out.2.1, HQ.out.2.2, hHd ⟨FrV.none_ _ _, .inl ⟨rfl, rfl⟩, by rw [HS0.out]; exact Nat.le_refl _⟩⟩
 case round =>
  obtain ⟨j, hj, rfl, hX, hZ, hB, HR⟩ := hrel
  obtain ⟨wo, hwo⟩ : ∃ wo, wo = wr := ⟨_, rfl⟩
  subst hwo
  have p5 : wo.cell? ⟨w.heap.size, 5, none⟩ = some (.slice A f.len c) := (hX.cell 5).trans rfl
  obtain ⟨hkv, hsh, hgs⟩ := HR.out
  by_cases hlt : j < f.len
  ·obtain ⟨a1, q, hg⟩ := Fr.get_some hlt
   obtain ⟨b, o, A', c', rfl, -, -, hbl, hrow, hcl⟩ := HK.out.at hg
   have hcell : ∀ i u, (ndC a1 (.slice A' q.len c'))[i]? = some u → wo.cell? ⟨b, o + j * 6 + i, none⟩ = some u := fun i u hu => (hB.cell (p := ⟨b, o + j * 6 + i, none⟩) hbl).trans (hcl i u hu)
   have y0 : (wo).cell? ⟨b, o + j * 6, none⟩ = _ := hcell 0 _ rfl
   have y1 : (wo).cell? ⟨b, o + j * 6 + 1, none⟩ = _ := hcell 1 _ rfl
   have y2 : (wo).cell? ⟨b, o + j * 6 + 2, none⟩ = _ := hcell 2 _ rfl
   have y3 : (wo).cell? ⟨b, o + j * 6 + 3, none⟩ = _ := hcell 3 _ rfl
   have y4 : (wo).cell? ⟨b, o + j * 6 + 4, none⟩ = _ := hcell 4 _ rfl
   have y5 : (wo).cell? ⟨b, o + j * 6 + 5, none⟩ = _ := hcell 5 _ rfl
   have i1 : (0 : Int) ≤ (j : Int) := by omega
   have i2 : (j : Int) < (f.len : Int) := by omega
   have i3 : (f.len : Int) ≤ 1000000 := by have := HZS.out; have := Fr.len_size f; omega
   obtain ⟨xf, hxf⟩ : ∃ z, z = sortA .nil q := ⟨_, rfl⟩
   obtain ⟨K, hKd⟩ : ∃ z, z = sortA .nil (Fr.take j f) := ⟨_, rfl⟩
   have HKD := hHd hKd
   have HXF := hHd hxf
   have HGE := hHd hg
   have HKL : Hid (K.len = j) := hHd (by rw [hKd, sortA_len, Fr.len_take _ _ (by omega)]; simp [Fr.len])
   have HI1 : Hid (Calls Try.prog 18 #[.agg (cN a1 (.slice A' q.len c'))] wo (PTreP1 0 (a1, xf) wo)) := hHd (by
    rw [hxf]; exact HI.out j a1 q hg a1 A' c' wo (hrow.under hB (Nat.le_refl _) hB.size) (by have := HZS.out; have := Fr.size_get hg; omega))
   rw [← hKd] at hkv
   have HKV := hHd hkv
   have HX := hHd hX
   have HZ := hHd hZ
   have HB := hHd hB
   have HGS0 := hHd hgs
   clear hg hrow hcl hcell hX hZ hB hgs hxf hKd hbl HR
   go_wp2_with fail
   refine HI1.out.mono ?_
   intro r w2 hr
   obtain ⟨Ax, cx, rfl, hl2, hb2⟩ := hr.flat
   have HE3 := hHd (Blk.new w2 27 (cN a1 (.slice Ax xf.len cx)))
   have hb3 : Below wo.heap.size wo (w2.alloc (.cells (cN a1 (.slice Ax xf.len cx)) 27)) := hb2.alloc hb2.size _
   have hs3 : (w2.alloc (.cells (cN a1 (.slice Ax xf.len cx)) 27)).heap.size = w2.heap.size + 1 := by simp
   have HX3 := hHd (HX.out.below hb3 HX.out.lt)
   have HZ3 := hHd (HZ.out.below hb3 HZ.out.lt)
   have HB3 := hHd (HB.out.trans (hb3.mono HB.out.size))
   have HG3 : Hid (w.heap.size + 2 ≤ (w2.alloc (.cells (cN a1 (.slice Ax xf.len cx)) 27)).heap.size) := hHd (Nat.le_trans HGS0.out hb3.size)
   have HXB : Hid (w2.heap.size < (w2.alloc (.cells (cN a1 (.slice Ax xf.len cx)) 27)).heap.size) := hHd (by omega)
   have HKU : Hid (∀ W, Below (w2.alloc (.cells (cN a1 (.slice Ax xf.len cx)) 27)).heap.size (w2.alloc (.cells (cN a1 (.slice Ax xf.len cx)) 27)) W → RowP 0 (w.heap.size + 2) W u3 K) := hHd (fun W hW => FrV.kept stay_nd HKV.out
    (fun g hg => (hW.block g (by have := hb3.size; rcases hg with h | h <;> omega)).trans (hb3.block g (by rcases hg with h | h <;> omega))) (fun g hg => by have := hb3.size; have := hW.size; rcases hg with h | h; exact .inl h; exact .inr ⟨h.1, by omega⟩) (fun _ h => h.elim) (fun _ h => h))
   have HTU : Hid (∀ W, Below (w2.alloc (.cells (cN a1 (.slice Ax xf.len cx)) 27)).heap.size (w2.alloc (.cells (cN a1 (.slice Ax xf.len cx)) 27)) W → LieP 0 (w.heap.size + 2) W (ndC a1 (.slice Ax xf.len cx)) (a1, xf)) := hHd (fun W hW => hl2.keep
    (fun g hg => (hW.block g (by rcases hg with h | h <;> omega)).trans (Below.heap_alloc w2 _ g (by rcases hg with h | h <;> omega))) (fun g hg => by have := HGS0.out; have := hW.size; rcases hg with h | h; exact .inl h; exact .inr ⟨by omega, by omega⟩))
   clear hr hl2 hb2 hb3 hs3 y0 y1 y2 y3 y4 y5 p5 hkv
   rcases hsh with ⟨rfl, rfl⟩ | ⟨kg, kc, rfl, hkc⟩
   ·-- the first kid
    go_wp2
    go_loopw [6] (fun i6 wv => i6 = .int .i64 0 ∧ Blk wv w.heap.size 27 (cN a (.slice (some ⟨b, o, none⟩) f.len c)) ∧ Blk wv (w.heap.size + 1) 27 #[.string ⟨#[]⟩, .string ⟨#[]⟩, .int .i64 0, .int .u64 0, .string ⟨#[]⟩, .slice none 0 0] ∧ Blk wv w2.heap.size 27 (cN a1 (.slice Ax xf.len cx)) ∧ Below (w2.alloc (.cells (cN a1 (.slice Ax xf.len cx)) 27)).heap.size (w2.alloc (.cells (cN a1 (.slice Ax xf.len cx)) 27)) wv) (fun _ _ => 0)
    case atStart => exact ⟨rfl, HX3.out, HZ3.out, HE3.out, Below.refl _ _⟩
    case round =>
     obtain ⟨rfl, hX, hZ, hE, hW⟩ := hrel
     have HXs := hHd (hX.below (Below.refl _ _).drew hX.lt)
     have HZs := hHd (hZ.below (Below.refl _ _).drew hZ.lt)
     have HEs := hHd (hE.below (Below.refl _ _).drew hE.lt)
     have HWs := hHd hW.drew
     clear hX hZ hE hW
     go_wp2_with fail
     go_region
     revert HXs HZs HEs HWs
     generalize wr.drew = w4
     intro HXs HZs HEs HWs
     have HKs : Hid (RowP 0 (w.heap.size + 2) w4 (.slice none 0 0) K) := hHd (HKU.out w4 HWs.out)
     have HTX : Hid (LieP 0 (w.heap.size + 2) w4 (ndC a1 (.slice Ax xf.len cx)) (a1, xf)) := hHd (HTU.out w4 HWs.out)
     have HGS : Hid (w.heap.size + 2 ≤ w4.heap.size) := hHd (Nat.le_trans HG3.out HWs.out.size)
     have HBs : Hid (Below w.heap.size w w4) := hHd (HB3.out.trans (HWs.out.mono (by have := HG3.out; omega)))
     have HPO : Hid (posD a1 K 0 = 0) := hHd rfl
     -- three appends, in the world w4
     have HO0 : Hid (OwnG NdT 27 6 5 w4 w4.heap.size (Zone 0 (w.heap.size + 2) w4.heap.size) noB (.slice none 0 0) (.nil : NdF)) := hHd (OwnG.nilS _ _ (fun g hg => by rcases hg with h | h <;> omega) (fun g hg => hg.elim))
     have HS0 : Hid (FrV NdT 6 5 w4 (Zone 0 (w.heap.size + 2) w4.heap.size) noB (.slice none 0 0) (Fr.take 0 K)) := hHd (by
      have hk := HKs.out
      have hj := HKL.out
      exact FrV.none_ _ _)
     have HTL : Hid ((Fr.take 0 K).len = 0) := hHd (Fr.len_take _ _ (by have := HKL.out; omega))
     have HDL : Hid ((Fr.drop 0 K).len = 0) := hHd (by rw [Fr.len_drop, HKL.out])
     have HUP : Hid (∀ (W : World), Below w4.heap.size w4 W → ∀ (v : Value) (x : NdF), FrV NdT 6 5 w4 (Zone 0 (w.heap.size + 2) w4.heap.size) noB v x → FrV NdT 6 5 W (Zone 0 (w.heap.size + 2) w4.heap.size) noB v x) := hHd (fun W hW v x h => h.kept stay_nd (fun g hg => hW.block g (by rcases hg with h | h <;> omega)) (fun _ h => h) (fun _ h => h.elim) (fun _ h => h))
     go_wp2_with (at_builtin; refine wpList_append_gs stay_nd one_nd Try.underlying25 Try.cellsNd rfl (by decide) rfl (.tmp 36) (.tmp 39) rfl rfl rfl HO0.out rfl HS0.out ?h1 ?h2 ?h3 ?_)
     case h1 => rw [HTL.out]; simp only [Fr.len]; omega
     case h2 => rw [HTL.out]; simp only [Fr.len]; omega
     case h3 => exact Nat.le_refl _
     intro v1 w5 hap
     obtain ⟨A5, c5, rfl⟩ : ∃ A5 c5, v1 = .slice A5 0 c5 := by
      obtain ⟨A5, c5, e⟩ := hap.1.shape
      rw [show (Fr.app .nil (Fr.take 0 K)).len = 0 from HTL.out] at e
      exact ⟨A5, c5, e⟩
     have HO1 : Hid (OwnG NdT 27 6 5 w5 w4.heap.size (Zone 0 (w.heap.size + 2) w4.heap.size) noB (.slice A5 0 c5) (Fr.take 0 K)) := hHd hap.1
     have HW5 : Hid (Below w4.heap.size w4 w5) := hHd (AppGs.below hap HO0.out (Nat.le_refl _))
     have HE5 := hHd (HEs.out.below HW5.out HEs.out.lt)
     clear hap
     obtain ⟨q0, q1, q2, q3, q4, q5⟩ := cl6 HE5.out
     have HA5 : Hid (Below w5.heap.size w5 (w5.alloc (.cells (cN a1 (.slice Ax xf.len cx)) 27))) := hHd bAl
     have HWA : Hid (Below w4.heap.size w4 (w5.alloc (.cells (cN a1 (.slice Ax xf.len cx)) 27))) := hHd (HW5.out.trans (HA5.out.mono HW5.out.size))
     have HO1a : Hid (OwnG NdT 27 6 5 (w5.alloc (.cells (cN a1 (.slice Ax xf.len cx)) 27)) w4.heap.size (fun g => (Zone 0 (w.heap.size + 2) w4.heap.size) g ∨ g = w5.heap.size) noB (.slice A5 0 c5) (Fr.take 0 K)) := hHd ((HO1.out.below stay_nd HA5.out).widen stay_nd (fun g hg => .inl hg) (fun _ h => h) (fun g hg => by
      have hs := HW5.out.size
      rcases hg with h | rfl
      ·exact (HO1.out.below stay_nd HA5.out).1 g h
      ·refine ⟨by simp, fun e => ?_⟩
       have := (HO1.out.lt _ e.symm).2
       omega) (fun g hg => hg.elim))
     have HR1 : Hid (FrV NdT 6 5 (w5.alloc (.cells (cN a1 (.slice Ax xf.len cx)) 27)) (fun g => (Zone 0 (w.heap.size + 2) w4.heap.size) g ∨ g = w5.heap.size) noB (.slice (some ⟨w5.heap.size, 0, none⟩) 1 1) (oneF (a1, xf))) := hHd
      (row_one (FrN.kept stay_nd HTX.out (fun g hg => HWA.out.block g (by rcases hg with h | h <;> omega)) (fun g hg => .inl hg) (fun _ h => h.elim) (fun _ h => h)) (.inr rfl) (Blk.new w5 27 (cN a1 (.slice Ax xf.len cx))))
     go_wp2_with (at_builtin; refine wpList_append_gs stay_nd one_nd Try.underlying25 Try.cellsNd rfl (by decide) rfl (.tmp 41) (.tmp 43) rfl rfl rfl HO1a.out rfl HR1.out ?h4 ?h5 ?h6 ?_)
     case h4 => rw [HTL.out]; simp only [oneF, Fr.len]; omega
     case h5 => rw [HTL.out]; simp only [oneF, Fr.len]; omega
     case h6 => exact HWA.out.size
     intro v2 w6 hap
     obtain ⟨A6, c6, rfl⟩ : ∃ A6 c6, v2 = .slice A6 1 c6 := by
      obtain ⟨A5, c5, e⟩ := hap.1.shape
      rw [Fr.len_app, HTL.out] at e
      exact ⟨A5, c5, e.trans (by simp [oneF, Fr.len])⟩
     have HO2 : Hid (OwnG NdT 27 6 5 w6 w4.heap.size (fun g => (Zone 0 (w.heap.size + 2) w4.heap.size) g ∨ g = w5.heap.size) noB (.slice A6 1 c6) ((Fr.take 0 K).app (oneF (a1, xf)))) := hHd hap.1
     have HW6 : Hid (Below w4.heap.size w4 w6) := hHd (HWA.out.trans (AppGs.below hap HO1a.out HWA.out.size))
     clear hap q0 q1 q2 q3 q4 q5
     have HS2 : Hid (FrV NdT 6 5 w6 (fun g => (Zone 0 (w.heap.size + 2) w4.heap.size) g ∨ g = w5.heap.size) noB (.slice none 0 0) (Fr.drop 0 K)) := hHd (FrV.mono stay_nd (HUP.out w6 HW6.out _ _ (by
      have hk := HKs.out
      have hj := HKL.out
      exact back_nil9 none 0 hj)) (fun g hg => .inl hg) (fun _ h => h))
     go_wp2_with (at_builtin; refine wpList_append_gs stay_nd one_nd Try.underlying25 Try.cellsNd rfl (by decide) rfl (.tmp 45) (.tmp 48) rfl rfl rfl HO2.out rfl HS2.out ?h7 ?h8 ?h9 ?_)
     case h7 => rw [Fr.len_app, HTL.out, HDL.out]; simp only [oneF, Fr.len]; omega
     case h8 => rw [Fr.len_app, HTL.out, HDL.out]; simp only [oneF, Fr.len]; omega
     case h9 => exact HW6.out.size
     intro v3 w7 hap
     rw [ins_is HKL.out HPO.out] at hap
     have HW7 : Hid (Below w4.heap.size w4 w7) := hHd (HW6.out.trans (AppGs.below (g := insB (a1, xf) K) hap HO2.out HW6.out.size))
     obtain ⟨g3, c3, hv3, hc3⟩ := hap.1.some_ (by rw [insB_len]; omega)
     rw [insB_len, HKL.out] at hv3 hc3
     subst hv3
     have HK3 : Hid (FrV NdT 6 5 w7 (Zone 0 (w.heap.size + 2) w7.heap.size) noB (.slice (some ⟨g3, 0, none⟩) (0 + 1) c3) (insB (a1, xf) K)) := hHd (FrV.mono stay_nd (hap.1.frv stay_nd) (fun g hg => by
      have hs5 := HW5.out.size
      have hs7 := HW7.out.size
      have hgs := HGS.out
      rcases hg with (h | h) | h
      ·rcases h with h | h
       ·omega
       ·exact .inr ⟨h.1, by omega⟩
      ·subst h; exact .inr ⟨by omega, (hap.1.1 w5.heap.size (.inr rfl)).1⟩
      ·have := hap.1.lt g h; exact .inr ⟨by omega, this.2⟩) (fun _ h => h))
     have HX7 := hHd (HXs.out.below HW7.out HXs.out.lt)
     have HZ7 := hHd (HZs.out.below HW7.out HZs.out.lt)
     have HB7 := hHd (HBs.out.trans (HW7.out.mono HBs.out.size))
     have HC3 := hHd hc3
     have HG7 : Hid (w.heap.size + 2 ≤ w7.heap.size) := hHd (Nat.le_trans HGS.out HW7.out.size)
     clear hap hc3
     go_wp2
     go_roundw
     case rel => exact ⟨0 + 1, by omega, by go_num, HX7.out, HZ7.out, HB7.out, hHd ⟨by rw [sort_step HGE.out, ← HXF.out, ← HKD.out]; exact HK3.out, .inr ⟨g3, c3, rfl, HC3.out⟩, HG7.out⟩⟩
     case measure => simp [intOf]; omega
   ·-- another one
    have HKC := hHd hkc
    have j3 : (j : Int) ≤ (kc : Int) := by omega
    go_wp2
    go_loopw [6] (fun i6 wv => ∃ m : Nat, m ≤ j ∧ i6 = .int .i64 (m : Int) ∧ Blk wv w.heap.size 27 (cN a (.slice (some ⟨b, o, none⟩) f.len c)) ∧ Blk wv (w.heap.size + 1) 27 #[.string ⟨#[]⟩, .string ⟨#[]⟩, .int .i64 0, .int .u64 0, .string ⟨#[]⟩, .slice none 0 0] ∧ Blk wv w2.heap.size 27 (cN a1 (.slice Ax xf.len cx)) ∧ Below (w2.alloc (.cells (cN a1 (.slice Ax xf.len cx)) 27)).heap.size (w2.alloc (.cells (cN a1 (.slice Ax xf.len cx)) 27)) wv ∧ Hid (posD a1 K j = posD a1 K m)) (fun i6 _ => (intOf i6).toNat)
    case atStart => exact ⟨j, Nat.le_refl _, rfl, HX3.out, HZ3.out, HE3.out, Below.refl _ _, hHd rfl⟩
    case round =>
     obtain ⟨m, hmj, rfl, hX, hZ, hE, hW, HPM⟩ := hrel
     have k1 : (0 : Int) ≤ (m : Int) := by omega
     have k2 : (m : Int) ≤ (j : Int) := by omega
     have k3 : (m : Int) ≤ (kc : Int) := by omega
     have k4 : m ≤ kc := by omega
     by_cases hm0 : m = 0
     ·have HPO : Hid (posD a1 K j = m) := hHd (by rw [HPM.out, hm0]; rfl)
      have k5 : ¬ (0 : Int) < (m : Int) := by omega
      have k6 : ¬ 0 < m := by omega
      have HXs := hHd (hX.below (Below.refl _ _).drew hX.lt)
      have HZs := hHd (hZ.below (Below.refl _ _).drew hZ.lt)
      have HEs := hHd (hE.below (Below.refl _ _).drew hE.lt)
      have HWs := hHd hW.drew
      have HM0 := hHd hm0
      clear hX hZ hE hW hm0
      go_wp2_with fail
      go_region
      revert HXs HZs HEs HWs
      generalize wr.drew = w4
      intro HXs HZs HEs HWs
      have HKs : Hid (RowP 0 (w.heap.size + 2) w4 (.slice (some ⟨kg, 0, none⟩) j kc) K) := hHd (HKU.out w4 HWs.out)
      have HTX : Hid (LieP 0 (w.heap.size + 2) w4 (ndC a1 (.slice Ax xf.len cx)) (a1, xf)) := hHd (HTU.out w4 HWs.out)
      have HGS : Hid (w.heap.size + 2 ≤ w4.heap.size) := hHd (Nat.le_trans HG3.out HWs.out.size)
      have HBs : Hid (Below w.heap.size w w4) := hHd (HB3.out.trans (HWs.out.mono (by have := HG3.out; omega)))
      by_cases hce : kc = m
      ·have hjm : j = m := by omega
       subst hce
       -- three appends, in the world w4
       have HO0 : Hid (OwnG NdT 27 6 5 w4 w4.heap.size (Zone 0 (w.heap.size + 2) w4.heap.size) noB (.slice none 0 0) (.nil : NdF)) := hHd (OwnG.nilS _ _ (fun g hg => by rcases hg with h | h <;> omega) (fun g hg => hg.elim))
       have HS0 : Hid (FrV NdT 6 5 w4 (Zone 0 (w.heap.size + 2) w4.heap.size) noB (.slice (some ⟨kg, 0, none⟩) kc kc) (Fr.take kc K)) := hHd (by
        have hk := HKs.out
        have hj := HKL.out
        exact FrV.front (by omega) hk)
       have HTL : Hid ((Fr.take kc K).len = kc) := hHd (Fr.len_take _ _ (by have := HKL.out; omega))
       have HDL : Hid ((Fr.drop kc K).len = j - kc) := hHd (by rw [Fr.len_drop, HKL.out])
       have HUP : Hid (∀ (W : World), Below w4.heap.size w4 W → ∀ (v : Value) (x : NdF), FrV NdT 6 5 w4 (Zone 0 (w.heap.size + 2) w4.heap.size) noB v x → FrV NdT 6 5 W (Zone 0 (w.heap.size + 2) w4.heap.size) noB v x) := hHd (fun W hW v x h => h.kept stay_nd (fun g hg => hW.block g (by rcases hg with h | h <;> omega)) (fun _ h => h) (fun _ h => h.elim) (fun _ h => h))
       go_wp2_with (at_builtin; refine wpList_append_gs stay_nd one_nd Try.underlying25 Try.cellsNd rfl (by decide) rfl (.tmp 36) (.tmp 39) rfl rfl rfl HO0.out rfl HS0.out ?h1 ?h2 ?h3 ?_)
       case h1 => rw [HTL.out]; simp only [Fr.len]; omega
       case h2 => rw [HTL.out]; simp only [Fr.len]; omega
       case h3 => exact Nat.le_refl _
       intro v1 w5 hap
       obtain ⟨A5, c5, rfl⟩ : ∃ A5 c5, v1 = .slice A5 kc c5 := by
        obtain ⟨A5, c5, e⟩ := hap.1.shape
        rw [show (Fr.app .nil (Fr.take kc K)).len = kc from HTL.out] at e
        exact ⟨A5, c5, e⟩
       have HO1 : Hid (OwnG NdT 27 6 5 w5 w4.heap.size (Zone 0 (w.heap.size + 2) w4.heap.size) noB (.slice A5 kc c5) (Fr.take kc K)) := hHd hap.1
       have HW5 : Hid (Below w4.heap.size w4 w5) := hHd (AppGs.below hap HO0.out (Nat.le_refl _))
       have HE5 := hHd (HEs.out.below HW5.out HEs.out.lt)
       clear hap
       obtain ⟨q0, q1, q2, q3, q4, q5⟩ := cl6 HE5.out
       have HA5 : Hid (Below w5.heap.size w5 (w5.alloc (.cells (cN a1 (.slice Ax xf.len cx)) 27))) := hHd bAl
       have HWA : Hid (Below w4.heap.size w4 (w5.alloc (.cells (cN a1 (.slice Ax xf.len cx)) 27))) := hHd (HW5.out.trans (HA5.out.mono HW5.out.size))
       have HO1a : Hid (OwnG NdT 27 6 5 (w5.alloc (.cells (cN a1 (.slice Ax xf.len cx)) 27)) w4.heap.size (fun g => (Zone 0 (w.heap.size + 2) w4.heap.size) g ∨ g = w5.heap.size) noB (.slice A5 kc c5) (Fr.take kc K)) := hHd ((HO1.out.below stay_nd HA5.out).widen stay_nd (fun g hg => .inl hg) (fun _ h => h) (fun g hg => by
        have hs := HW5.out.size
        rcases hg with h | rfl
        ·exact (HO1.out.below stay_nd HA5.out).1 g h
        ·refine ⟨by simp, fun e => ?_⟩
         have := (HO1.out.lt _ e.symm).2
         omega) (fun g hg => hg.elim))
       have HR1 : Hid (FrV NdT 6 5 (w5.alloc (.cells (cN a1 (.slice Ax xf.len cx)) 27)) (fun g => (Zone 0 (w.heap.size + 2) w4.heap.size) g ∨ g = w5.heap.size) noB (.slice (some ⟨w5.heap.size, 0, none⟩) 1 1) (oneF (a1, xf))) := hHd
        (row_one (FrN.kept stay_nd HTX.out (fun g hg => HWA.out.block g (by rcases hg with h | h <;> omega)) (fun g hg => .inl hg) (fun _ h => h.elim) (fun _ h => h)) (.inr rfl) (Blk.new w5 27 (cN a1 (.slice Ax xf.len cx))))
       go_wp2_with (at_builtin; refine wpList_append_gs stay_nd one_nd Try.underlying25 Try.cellsNd rfl (by decide) rfl (.tmp 41) (.tmp 43) rfl rfl rfl HO1a.out rfl HR1.out ?h4 ?h5 ?h6 ?_)
       case h4 => rw [HTL.out]; simp only [oneF, Fr.len]; omega
       case h5 => rw [HTL.out]; simp only [oneF, Fr.len]; omega
       case h6 => exact HWA.out.size
       intro v2 w6 hap
       obtain ⟨A6, c6, rfl⟩ : ∃ A6 c6, v2 = .slice A6 (kc + 1) c6 := by
        obtain ⟨A5, c5, e⟩ := hap.1.shape
        rw [Fr.len_app, HTL.out] at e
        exact ⟨A5, c5, e.trans (by simp [oneF, Fr.len])⟩
       have HO2 : Hid (OwnG NdT 27 6 5 w6 w4.heap.size (fun g => (Zone 0 (w.heap.size + 2) w4.heap.size) g ∨ g = w5.heap.size) noB (.slice A6 (kc + 1) c6) ((Fr.take kc K).app (oneF (a1, xf)))) := hHd hap.1
       have HW6 : Hid (Below w4.heap.size w4 w6) := hHd (HWA.out.trans (AppGs.below hap HO1a.out HWA.out.size))
       clear hap q0 q1 q2 q3 q4 q5
       have HS2 : Hid (FrV NdT 6 5 w6 (fun g => (Zone 0 (w.heap.size + 2) w4.heap.size) g ∨ g = w5.heap.size) noB (.slice (some ⟨kg, 0, none⟩) 0 0) (Fr.drop kc K)) := hHd (FrV.mono stay_nd (HUP.out w6 HW6.out _ _ (by
        have hk := HKs.out
        have hj := HKL.out
        exact back_all9 _ _ _ (by omega))) (fun g hg => .inl hg) (fun _ h => h))
       go_wp2_with (at_builtin; refine wpList_append_gs stay_nd one_nd Try.underlying25 Try.cellsNd rfl (by decide) rfl (.tmp 45) (.tmp 48) rfl rfl rfl HO2.out rfl HS2.out ?h7 ?h8 ?h9 ?_)
       case h7 => rw [Fr.len_app, HTL.out, HDL.out]; simp only [oneF, Fr.len]; omega
       case h8 => rw [Fr.len_app, HTL.out, HDL.out]; simp only [oneF, Fr.len]; omega
       case h9 => exact HW6.out.size
       intro v3 w7 hap
       rw [ins_is HKL.out HPO.out] at hap
       have HW7 : Hid (Below w4.heap.size w4 w7) := hHd (HW6.out.trans (AppGs.below (g := insB (a1, xf) K) hap HO2.out HW6.out.size))
       obtain ⟨g3, c3, hv3, hc3⟩ := hap.1.some_ (by rw [insB_len]; omega)
       rw [insB_len, HKL.out] at hv3 hc3
       subst hv3
       have HK3 : Hid (FrV NdT 6 5 w7 (Zone 0 (w.heap.size + 2) w7.heap.size) noB (.slice (some ⟨g3, 0, none⟩) (j + 1) c3) (insB (a1, xf) K)) := hHd (FrV.mono stay_nd (hap.1.frv stay_nd) (fun g hg => by
        have hs5 := HW5.out.size
        have hs7 := HW7.out.size
        have hgs := HGS.out
        rcases hg with (h | h) | h
        ·rcases h with h | h
         ·omega
         ·exact .inr ⟨h.1, by omega⟩
        ·subst h; exact .inr ⟨by omega, (hap.1.1 w5.heap.size (.inr rfl)).1⟩
        ·have := hap.1.lt g h; exact .inr ⟨by omega, this.2⟩) (fun _ h => h))
       have HX7 := hHd (HXs.out.below HW7.out HXs.out.lt)
       have HZ7 := hHd (HZs.out.below HW7.out HZs.out.lt)
       have HB7 := hHd (HBs.out.trans (HW7.out.mono HBs.out.size))
       have HC3 := hHd hc3
       have HG7 : Hid (w.heap.size + 2 ≤ w7.heap.size) := hHd (Nat.le_trans HGS.out HW7.out.size)
       clear hap hc3
       go_wp2
       go_roundw
       case rel => exact ⟨j + 1, by omega, by go_num, HX7.out, HZ7.out, HB7.out, hHd ⟨by rw [sort_step HGE.out, ← HXF.out, ← HKD.out]; exact HK3.out, .inr ⟨g3, c3, rfl, HC3.out⟩, HG7.out⟩⟩
       case measure => simp [intOf]; omega
      ·skip
       -- three appends, in the world w4
       have HO0 : Hid (OwnG NdT 27 6 5 w4 w4.heap.size (Zone 0 (w.heap.size + 2) w4.heap.size) noB (.slice none 0 0) (.nil : NdF)) := hHd (OwnG.nilS _ _ (fun g hg => by rcases hg with h | h <;> omega) (fun g hg => hg.elim))
       have HS0 : Hid (FrV NdT 6 5 w4 (Zone 0 (w.heap.size + 2) w4.heap.size) noB (.slice (some ⟨kg, 0, none⟩) m kc) (Fr.take m K)) := hHd (by
        have hk := HKs.out
        have hj := HKL.out
        exact FrV.front (by omega) hk)
       have HTL : Hid ((Fr.take m K).len = m) := hHd (Fr.len_take _ _ (by have := HKL.out; omega))
       have HDL : Hid ((Fr.drop m K).len = j - m) := hHd (by rw [Fr.len_drop, HKL.out])
       have HUP : Hid (∀ (W : World), Below w4.heap.size w4 W → ∀ (v : Value) (x : NdF), FrV NdT 6 5 w4 (Zone 0 (w.heap.size + 2) w4.heap.size) noB v x → FrV NdT 6 5 W (Zone 0 (w.heap.size + 2) w4.heap.size) noB v x) := hHd (fun W hW v x h => h.kept stay_nd (fun g hg => hW.block g (by rcases hg with h | h <;> omega)) (fun _ h => h) (fun _ h => h.elim) (fun _ h => h))
       go_wp2_with (at_builtin; refine wpList_append_gs stay_nd one_nd Try.underlying25 Try.cellsNd rfl (by decide) rfl (.tmp 36) (.tmp 39) rfl rfl rfl HO0.out rfl HS0.out ?h1 ?h2 ?h3 ?_)
       case h1 => rw [HTL.out]; simp only [Fr.len]; omega
       case h2 => rw [HTL.out]; simp only [Fr.len]; omega
       case h3 => exact Nat.le_refl _
       intro v1 w5 hap
       obtain ⟨A5, c5, rfl⟩ : ∃ A5 c5, v1 = .slice A5 m c5 := by
        obtain ⟨A5, c5, e⟩ := hap.1.shape
        rw [show (Fr.app .nil (Fr.take m K)).len = m from HTL.out] at e
        exact ⟨A5, c5, e⟩
       have HO1 : Hid (OwnG NdT 27 6 5 w5 w4.heap.size (Zone 0 (w.heap.size + 2) w4.heap.size) noB (.slice A5 m c5) (Fr.take m K)) := hHd hap.1
       have HW5 : Hid (Below w4.heap.size w4 w5) := hHd (AppGs.below hap HO0.out (Nat.le_refl _))
       have HE5 := hHd (HEs.out.below HW5.out HEs.out.lt)
       clear hap
       obtain ⟨q0, q1, q2, q3, q4, q5⟩ := cl6 HE5.out
       have HA5 : Hid (Below w5.heap.size w5 (w5.alloc (.cells (cN a1 (.slice Ax xf.len cx)) 27))) := hHd bAl
       have HWA : Hid (Below w4.heap.size w4 (w5.alloc (.cells (cN a1 (.slice Ax xf.len cx)) 27))) := hHd (HW5.out.trans (HA5.out.mono HW5.out.size))
       have HO1a : Hid (OwnG NdT 27 6 5 (w5.alloc (.cells (cN a1 (.slice Ax xf.len cx)) 27)) w4.heap.size (fun g => (Zone 0 (w.heap.size + 2) w4.heap.size) g ∨ g = w5.heap.size) noB (.slice A5 m c5) (Fr.take m K)) := hHd ((HO1.out.below stay_nd HA5.out).widen stay_nd (fun g hg => .inl hg) (fun _ h => h) (fun g hg => by
        have hs := HW5.out.size
        rcases hg with h | rfl
        ·exact (HO1.out.below stay_nd HA5.out).1 g h
        ·refine ⟨by simp, fun e => ?_⟩
         have := (HO1.out.lt _ e.symm).2
         omega) (fun g hg => hg.elim))
       have HR1 : Hid (FrV NdT 6 5 (w5.alloc (.cells (cN a1 (.slice Ax xf.len cx)) 27)) (fun g => (Zone 0 (w.heap.size + 2) w4.heap.size) g ∨ g = w5.heap.size) noB (.slice (some ⟨w5.heap.size, 0, none⟩) 1 1) (oneF (a1, xf))) := hHd
        (row_one (FrN.kept stay_nd HTX.out (fun g hg => HWA.out.block g (by rcases hg with h | h <;> omega)) (fun g hg => .inl hg) (fun _ h => h.elim) (fun _ h => h)) (.inr rfl) (Blk.new w5 27 (cN a1 (.slice Ax xf.len cx))))
       go_wp2_with (at_builtin; refine wpList_append_gs stay_nd one_nd Try.underlying25 Try.cellsNd rfl (by decide) rfl (.tmp 41) (.tmp 43) rfl rfl rfl HO1a.out rfl HR1.out ?h4 ?h5 ?h6 ?_)
       case h4 => rw [HTL.out]; simp only [oneF, Fr.len]; omega
       case h5 => rw [HTL.out]; simp only [oneF, Fr.len]; omega
       case h6 => exact HWA.out.size
       intro v2 w6 hap
       obtain ⟨A6, c6, rfl⟩ : ∃ A6 c6, v2 = .slice A6 (m + 1) c6 := by
        obtain ⟨A5, c5, e⟩ := hap.1.shape
        rw [Fr.len_app, HTL.out] at e
        exact ⟨A5, c5, e.trans (by simp [oneF, Fr.len])⟩
       have HO2 : Hid (OwnG NdT 27 6 5 w6 w4.heap.size (fun g => (Zone 0 (w.heap.size + 2) w4.heap.size) g ∨ g = w5.heap.size) noB (.slice A6 (m + 1) c6) ((Fr.take m K).app (oneF (a1, xf)))) := hHd hap.1
       have HW6 : Hid (Below w4.heap.size w4 w6) := hHd (HWA.out.trans (AppGs.below hap HO1a.out HWA.out.size))
       clear hap q0 q1 q2 q3 q4 q5
       have HS2 : Hid (FrV NdT 6 5 w6 (fun g => (Zone 0 (w.heap.size + 2) w4.heap.size) g ∨ g = w5.heap.size) noB (.slice (some ⟨kg, m * 6, none⟩) (j - m) (kc - m)) (Fr.drop m K)) := hHd (FrV.mono stay_nd (HUP.out w6 HW6.out _ _ (by
        have hk := HKs.out
        have hj := HKL.out
        exact back_part9 hj (by omega) hk)) (fun g hg => .inl hg) (fun _ h => h))
       go_wp2_with (at_builtin; refine wpList_append_gs stay_nd one_nd Try.underlying25 Try.cellsNd rfl (by decide) rfl (.tmp 45) (.tmp 48) rfl rfl rfl HO2.out rfl HS2.out ?h7 ?h8 ?h9 ?_)
       case h7 => rw [Fr.len_app, HTL.out, HDL.out]; simp only [oneF, Fr.len]; omega
       case h8 => rw [Fr.len_app, HTL.out, HDL.out]; simp only [oneF, Fr.len]; omega
       case h9 => exact HW6.out.size
       intro v3 w7 hap
       rw [ins_is HKL.out HPO.out] at hap
       have HW7 : Hid (Below w4.heap.size w4 w7) := hHd (HW6.out.trans (AppGs.below (g := insB (a1, xf) K) hap HO2.out HW6.out.size))
       obtain ⟨g3, c3, hv3, hc3⟩ := hap.1.some_ (by rw [insB_len]; omega)
       rw [insB_len, HKL.out] at hv3 hc3
       subst hv3
       have HK3 : Hid (FrV NdT 6 5 w7 (Zone 0 (w.heap.size + 2) w7.heap.size) noB (.slice (some ⟨g3, 0, none⟩) (j + 1) c3) (insB (a1, xf) K)) := hHd (FrV.mono stay_nd (hap.1.frv stay_nd) (fun g hg => by
        have hs5 := HW5.out.size
        have hs7 := HW7.out.size
        have hgs := HGS.out
        rcases hg with (h | h) | h
        ·rcases h with h | h
         ·omega
         ·exact .inr ⟨h.1, by omega⟩
        ·subst h; exact .inr ⟨by omega, (hap.1.1 w5.heap.size (.inr rfl)).1⟩
        ·have := hap.1.lt g h; exact .inr ⟨by omega, this.2⟩) (fun _ h => h))
       have HX7 := hHd (HXs.out.below HW7.out HXs.out.lt)
       have HZ7 := hHd (HZs.out.below HW7.out HZs.out.lt)
       have HB7 := hHd (HBs.out.trans (HW7.out.mono HBs.out.size))
       have HC3 := hHd hc3
       have HG7 : Hid (w.heap.size + 2 ≤ w7.heap.size) := hHd (Nat.le_trans HGS.out HW7.out.size)
       clear hap hc3
       go_wp2
       go_roundw
       case rel => exact ⟨j + 1, by omega, by go_num, HX7.out, HZ7.out, HB7.out, hHd ⟨by rw [sort_step HGE.out, ← HXF.out, ← HKD.out]; exact HK3.out, .inr ⟨g3, c3, rfl, HC3.out⟩, HG7.out⟩⟩
       case measure => simp [intOf]; omega
     ·obtain ⟨n, rfl⟩ : ∃ n, m = n + 1 := ⟨m - 1, by omega⟩
      obtain ⟨a0, k0, hg0⟩ := Fr.get_some (f := K) (n := n) (by have := HKL.out; omega)
      obtain ⟨lb, hlb⟩ : ∃ z, z = lessX a1 a0 := ⟨_, rfl⟩
      obtain ⟨kb, ko, kc', cs0, ee, _, hbk, hfn, hcl0⟩ := FrV.at (HKU.out wr hW) hg0
      injection ee with ee1 ee2 ee3
      injection ee1 with ee1
      injection ee1 with ee4 ee5 _
      subst ee3 ee4 ee5
      clear ee2
      obtain ⟨A0, c0, rfl, _⟩ := LieP.shape (b := 0) (B := w.heap.size + 2) (x := (a0, k0)) hfn
      have hbkl : kg < wr.heap.size := by rcases hbk with h | h <;> omega
      have L1 : LieN wr.drew (ndC a1 (.slice Ax xf.len cx)) (a1, xf) := ((HTU.out wr hW).lies (Nat.zero_le _)).keep (fun _ _ => rfl) (Nat.le_refl _)
      have L0 : LieN wr.drew (ndC a0 (.slice A0 k0.len c0)) (a0, k0) := (LieP.lies (b := 0) (B := w.heap.size + 2) (x := (a0, k0)) hfn (Nat.zero_le _)).keep (fun _ _ => rfl) (Nat.le_refl _)
      have HLc : Hid (Calls Try.prog 27 #[.agg (cN a1 (.slice Ax xf.len cx)), .agg (cN a0 (.slice A0 k0.len c0))] wr.drew (Ans9 (.bool lb) wr.drew)) := hHd (by
       rw [hlb]; exact rless_any (a1, xf) (a0, k0) _ _ wr.drew L1 L0)
      have HQ1 := hHd (And.intro (hE.below (Below.refl _ _).drew hE.lt) (show ∀ i u, (ndC a0 (.slice A0 k0.len c0))[i]? = some u → wr.drew.cell? ⟨kg, n * 6 + i, none⟩ = some u from fun i u hu => by
       have h := hcl0 i u hu
       rw [Nat.zero_add] at h
       exact h))
      have HXd := hHd (hX.below (Below.refl _ _).drew hX.lt)
      have HZd := hHd (hZ.below (Below.refl _ _).drew hZ.lt)
      have HWd := hHd hW.drew
      have HBK := hHd hbkl
      have HPN : Hid (posD a1 K (n + 1) = if lb = true then posD a1 K n else n + 1) := hHd (by simp only [posD]; rw [hg0, hlb])
      have n1 : (0 : Int) ≤ (n : Int) := by omega
      have n2 : (n : Int) < (j : Int) := by omega
      have n3 : (n : Int) + 1 ≤ (j : Int) := by omega
      have n4 : (0 : Int) < (n : Int) + 1 := by omega
      have n5 : (0 : Int) ≤ (n : Int) + 1 := by omega
      have n6 : (n : Int) + 1 ≤ (kc : Int) := by omega
      have jw : IntKind.i64.wrap (n : Int) = (n : Int) := Go.IntWalk.i64_in _ (by omega)
      have HJ := hHd jw
      clear hX hZ hE hW hg0 hlb hfn hcl0 L0 L1 jw hbk hbkl hm0
      go_wp2_with fail
      refine wp_region_noPanic ?_
      refine wp_region_held_drew (S := fun _ => True) (by kernel_rfl) trivial (fun hS => ?_)
      refine held_more (S' := fun w' => Blk w' w2.heap.size 27 (cN a1 (.slice Ax xf.len cx)) ∧ ∀ i u, (ndC a0 (.slice A0 k0.len c0))[i]? = some u → w'.cell? ⟨kg, n * 6 + i, none⟩ = some u) (fun _ _ => trivial) _ _ _ _ ?_
      replace hS := HQ1.out
      refine tkH 0 hS ?_
      refine tkH 1 hS ?_
      refine tkH 2 hS ?_
      refine tkH 3 hS ?_ (hy := fun w hSw => by obtain ⟨q0, q1, q2, q3, q4, q5⟩ := cl6 hSw.1; (go_simp <;> with_reducible rfl))
      refine tkH 4 hS ?_
      refine tkH 5 hS ?_
      refine tkH 6 hS ?_
      refine tkH 7 hS ?_ (hy := fun w hSw => by have jw := HJ.out; (go_simp <;> with_reducible rfl))
      refine tkH 8 hS ?_ (hy := fun w hSw => by have u0 : w.cell? ⟨kg, n * 6, none⟩ = _ := hSw.2 0 _ rfl; have u1 := hSw.2 1 _ rfl; have u2 := hSw.2 2 _ rfl; have u3 := hSw.2 3 _ rfl; have u4 := hSw.2 4 _ rfl; have u5 := hSw.2 5 _ rfl; (go_simp <;> with_reducible rfl))
      refine rdy1 9 fun K hK => ?_
      go_simp
      refine HLc.out.mono ?_
      rintro r w4 ⟨rfl, hb4⟩
      have HE4 := hHd (HQ1.out.1.below hb4 HQ1.out.1.lt)
      have HX4 := hHd (HXd.out.below hb4 HXd.out.lt)
      have HZ4 := hHd (HZd.out.below hb4 HZd.out.lt)
      have HW4 := hHd (HWd.out.trans (hb4.mono HWd.out.size))
      have HC4 : Hid (∀ i u, (ndC a0 (.slice A0 k0.len c0))[i]? = some u → w4.cell? ⟨kg, n * 6 + i, none⟩ = some u) := hHd (fun i u hu => (hb4.cell (p := ⟨kg, n * 6 + i, none⟩) HBK.out).trans (HQ1.out.2 i u hu))
      clear hb4
      go_wp2_with fail
      refine hK.out _ _ ?sr_0 (fun hS => ?_)
      case sr_0 => (exact ⟨HE4.out, HC4.out⟩)
      clear hK K
      (try simp only [Act.put, layS])
      refine tkH 10 hS ?_
      refine wpAnyH_done (by kernel_rfl) ?_ _
      refine NoPanic.normal ?_
      clear hS
      cases lb with
      | true =>
       have HPM2 : Hid (posD a1 K j = posD a1 K n) := hHd (by rw [HPM.out, HPN.out]; rfl)
       go_wp2
       go_roundw
       case rel => exact ⟨n, by omega, by go_num, HX4.out, HZ4.out, HE4.out, HW4.out, HPM2⟩
       case measure => first | (simp [intOf]; done) | (simp [intOf]; omega)
      | false =>
       have HPO : Hid (posD a1 K j = n + 1) := hHd (by rw [HPM.out, HPN.out]; rfl)
       have HXs := HX4
       have HZs := HZ4
       have HEs := HE4
       have HWs := HW4
       have HKs : Hid (RowP 0 (w.heap.size + 2) w4 (.slice (some ⟨kg, 0, none⟩) j kc) K) := hHd (HKU.out w4 HWs.out)
       have HTX : Hid (LieP 0 (w.heap.size + 2) w4 (ndC a1 (.slice Ax xf.len cx)) (a1, xf)) := hHd (HTU.out w4 HWs.out)
       have HGS : Hid (w.heap.size + 2 ≤ w4.heap.size) := hHd (Nat.le_trans HG3.out HWs.out.size)
       have HBs : Hid (Below w.heap.size w w4) := hHd (HB3.out.trans (HWs.out.mono (by have := HG3.out; omega)))
       by_cases hce : kc = n + 1
       ·have hjm : j = n + 1 := by omega
        subst hce
        -- three appends, in the world w4
        have HO0 : Hid (OwnG NdT 27 6 5 w4 w4.heap.size (Zone 0 (w.heap.size + 2) w4.heap.size) noB (.slice none 0 0) (.nil : NdF)) := hHd (OwnG.nilS _ _ (fun g hg => by rcases hg with h | h <;> omega) (fun g hg => hg.elim))
        have HS0 : Hid (FrV NdT 6 5 w4 (Zone 0 (w.heap.size + 2) w4.heap.size) noB (.slice (some ⟨kg, 0, none⟩) (n + 1) (n + 1)) (Fr.take (n + 1) K)) := hHd (by
         have hk := HKs.out
         have hj := HKL.out
         exact FrV.front (by omega) hk)
        have HTL : Hid ((Fr.take (n + 1) K).len = (n + 1)) := hHd (Fr.len_take _ _ (by have := HKL.out; omega))
        have HDL : Hid ((Fr.drop (n + 1) K).len = j - (n + 1)) := hHd (by rw [Fr.len_drop, HKL.out])
        have HUP : Hid (∀ (W : World), Below w4.heap.size w4 W → ∀ (v : Value) (x : NdF), FrV NdT 6 5 w4 (Zone 0 (w.heap.size + 2) w4.heap.size) noB v x → FrV NdT 6 5 W (Zone 0 (w.heap.size + 2) w4.heap.size) noB v x) := hHd (fun W hW v x h => h.kept stay_nd (fun g hg => hW.block g (by rcases hg with h | h <;> omega)) (fun _ h => h) (fun _ h => h.elim) (fun _ h => h))
        go_wp2_with (at_builtin; refine wpList_append_gs stay_nd one_nd Try.underlying25 Try.cellsNd rfl (by decide) rfl (.tmp 36) (.tmp 39) rfl rfl rfl HO0.out rfl HS0.out ?h1 ?h2 ?h3 ?_)
        case h1 => rw [HTL.out]; simp only [Fr.len]; omega
        case h2 => rw [HTL.out]; simp only [Fr.len]; omega
        case h3 => exact Nat.le_refl _
        intro v1 w5 hap
        obtain ⟨A5, c5, rfl⟩ : ∃ A5 c5, v1 = .slice A5 (n + 1) c5 := by
         obtain ⟨A5, c5, e⟩ := hap.1.shape
         rw [show (Fr.app .nil (Fr.take (n + 1) K)).len = (n + 1) from HTL.out] at e
         exact ⟨A5, c5, e⟩
        have HO1 : Hid (OwnG NdT 27 6 5 w5 w4.heap.size (Zone 0 (w.heap.size + 2) w4.heap.size) noB (.slice A5 (n + 1) c5) (Fr.take (n + 1) K)) := hHd hap.1
        have HW5 : Hid (Below w4.heap.size w4 w5) := hHd (AppGs.below hap HO0.out (Nat.le_refl _))
        have HE5 := hHd (HEs.out.below HW5.out HEs.out.lt)
        clear hap
        obtain ⟨q0, q1, q2, q3, q4, q5⟩ := cl6 HE5.out
        have HA5 : Hid (Below w5.heap.size w5 (w5.alloc (.cells (cN a1 (.slice Ax xf.len cx)) 27))) := hHd bAl
        have HWA : Hid (Below w4.heap.size w4 (w5.alloc (.cells (cN a1 (.slice Ax xf.len cx)) 27))) := hHd (HW5.out.trans (HA5.out.mono HW5.out.size))
        have HO1a : Hid (OwnG NdT 27 6 5 (w5.alloc (.cells (cN a1 (.slice Ax xf.len cx)) 27)) w4.heap.size (fun g => (Zone 0 (w.heap.size + 2) w4.heap.size) g ∨ g = w5.heap.size) noB (.slice A5 (n + 1) c5) (Fr.take (n + 1) K)) := hHd ((HO1.out.below stay_nd HA5.out).widen stay_nd (fun g hg => .inl hg) (fun _ h => h) (fun g hg => by
         have hs := HW5.out.size
         rcases hg with h | rfl
         ·exact (HO1.out.below stay_nd HA5.out).1 g h
         ·refine ⟨by simp, fun e => ?_⟩
          have := (HO1.out.lt _ e.symm).2
          omega) (fun g hg => hg.elim))
        have HR1 : Hid (FrV NdT 6 5 (w5.alloc (.cells (cN a1 (.slice Ax xf.len cx)) 27)) (fun g => (Zone 0 (w.heap.size + 2) w4.heap.size) g ∨ g = w5.heap.size) noB (.slice (some ⟨w5.heap.size, 0, none⟩) 1 1) (oneF (a1, xf))) := hHd
         (row_one (FrN.kept stay_nd HTX.out (fun g hg => HWA.out.block g (by rcases hg with h | h <;> omega)) (fun g hg => .inl hg) (fun _ h => h.elim) (fun _ h => h)) (.inr rfl) (Blk.new w5 27 (cN a1 (.slice Ax xf.len cx))))
        go_wp2_with (at_builtin; refine wpList_append_gs stay_nd one_nd Try.underlying25 Try.cellsNd rfl (by decide) rfl (.tmp 41) (.tmp 43) rfl rfl rfl HO1a.out rfl HR1.out ?h4 ?h5 ?h6 ?_)
        case h4 => rw [HTL.out]; simp only [oneF, Fr.len]; omega
        case h5 => rw [HTL.out]; simp only [oneF, Fr.len]; omega
        case h6 => exact HWA.out.size
        intro v2 w6 hap
        obtain ⟨A6, c6, rfl⟩ : ∃ A6 c6, v2 = .slice A6 (n + 1 + 1) c6 := by
         obtain ⟨A5, c5, e⟩ := hap.1.shape
         rw [Fr.len_app, HTL.out] at e
         exact ⟨A5, c5, e.trans (by simp [oneF, Fr.len])⟩
        have HO2 : Hid (OwnG NdT 27 6 5 w6 w4.heap.size (fun g => (Zone 0 (w.heap.size + 2) w4.heap.size) g ∨ g = w5.heap.size) noB (.slice A6 (n + 1 + 1) c6) ((Fr.take (n + 1) K).app (oneF (a1, xf)))) := hHd hap.1
        have HW6 : Hid (Below w4.heap.size w4 w6) := hHd (HWA.out.trans (AppGs.below hap HO1a.out HWA.out.size))
        clear hap q0 q1 q2 q3 q4 q5
        have HS2 : Hid (FrV NdT 6 5 w6 (fun g => (Zone 0 (w.heap.size + 2) w4.heap.size) g ∨ g = w5.heap.size) noB (.slice (some ⟨kg, 0, none⟩) 0 0) (Fr.drop (n + 1) K)) := hHd (FrV.mono stay_nd (HUP.out w6 HW6.out _ _ (by
         have hk := HKs.out
         have hj := HKL.out
         exact back_all9 _ _ _ (by omega))) (fun g hg => .inl hg) (fun _ h => h))
        go_wp2_with (at_builtin; refine wpList_append_gs stay_nd one_nd Try.underlying25 Try.cellsNd rfl (by decide) rfl (.tmp 45) (.tmp 48) rfl rfl rfl HO2.out rfl HS2.out ?h7 ?h8 ?h9 ?_)
        case h7 => rw [Fr.len_app, HTL.out, HDL.out]; simp only [oneF, Fr.len]; omega
        case h8 => rw [Fr.len_app, HTL.out, HDL.out]; simp only [oneF, Fr.len]; omega
        case h9 => exact HW6.out.size
        intro v3 w7 hap
        rw [ins_is HKL.out HPO.out] at hap
        have HW7 : Hid (Below w4.heap.size w4 w7) := hHd (HW6.out.trans (AppGs.below (g := insB (a1, xf) K) hap HO2.out HW6.out.size))
        obtain ⟨g3, c3, hv3, hc3⟩ := hap.1.some_ (by rw [insB_len]; omega)
        rw [insB_len, HKL.out] at hv3 hc3
        subst hv3
        have HK3 : Hid (FrV NdT 6 5 w7 (Zone 0 (w.heap.size + 2) w7.heap.size) noB (.slice (some ⟨g3, 0, none⟩) (j + 1) c3) (insB (a1, xf) K)) := hHd (FrV.mono stay_nd (hap.1.frv stay_nd) (fun g hg => by
         have hs5 := HW5.out.size
         have hs7 := HW7.out.size
         have hgs := HGS.out
         rcases hg with (h | h) | h
         ·rcases h with h | h
          ·omega
          ·exact .inr ⟨h.1, by omega⟩
         ·subst h; exact .inr ⟨by omega, (hap.1.1 w5.heap.size (.inr rfl)).1⟩
         ·have := hap.1.lt g h; exact .inr ⟨by omega, this.2⟩) (fun _ h => h))
        have HX7 := hHd (HXs.out.below HW7.out HXs.out.lt)
        have HZ7 := hHd (HZs.out.below HW7.out HZs.out.lt)
        have HB7 := hHd (HBs.out.trans (HW7.out.mono HBs.out.size))
        have HC3 := hHd hc3
        have HG7 : Hid (w.heap.size + 2 ≤ w7.heap.size) := hHd (Nat.le_trans HGS.out HW7.out.size)
        clear hap hc3
        go_wp2
        go_roundw
        case rel => exact ⟨j + 1, by omega, by go_num, HX7.out, HZ7.out, HB7.out, hHd ⟨by rw [sort_step HGE.out, ← HXF.out, ← HKD.out]; exact HK3.out, .inr ⟨g3, c3, rfl, HC3.out⟩, HG7.out⟩⟩
        case measure => simp [intOf]; omega
       ·skip
        -- three appends, in the world w4
        have HO0 : Hid (OwnG NdT 27 6 5 w4 w4.heap.size (Zone 0 (w.heap.size + 2) w4.heap.size) noB (.slice none 0 0) (.nil : NdF)) := hHd (OwnG.nilS _ _ (fun g hg => by rcases hg with h | h <;> omega) (fun g hg => hg.elim))
        have HS0 : Hid (FrV NdT 6 5 w4 (Zone 0 (w.heap.size + 2) w4.heap.size) noB (.slice (some ⟨kg, 0, none⟩) (n + 1) kc) (Fr.take (n + 1) K)) := hHd (by
         have hk := HKs.out
         have hj := HKL.out
         exact FrV.front (by omega) hk)
        have HTL : Hid ((Fr.take (n + 1) K).len = (n + 1)) := hHd (Fr.len_take _ _ (by have := HKL.out; omega))
        have HDL : Hid ((Fr.drop (n + 1) K).len = j - (n + 1)) := hHd (by rw [Fr.len_drop, HKL.out])
        have HUP : Hid (∀ (W : World), Below w4.heap.size w4 W → ∀ (v : Value) (x : NdF), FrV NdT 6 5 w4 (Zone 0 (w.heap.size + 2) w4.heap.size) noB v x → FrV NdT 6 5 W (Zone 0 (w.heap.size + 2) w4.heap.size) noB v x) := hHd (fun W hW v x h => h.kept stay_nd (fun g hg => hW.block g (by rcases hg with h | h <;> omega)) (fun _ h => h) (fun _ h => h.elim) (fun _ h => h))
        go_wp2_with (at_builtin; refine wpList_append_gs stay_nd one_nd Try.underlying25 Try.cellsNd rfl (by decide) rfl (.tmp 36) (.tmp 39) rfl rfl rfl HO0.out rfl HS0.out ?h1 ?h2 ?h3 ?_)
        case h1 => rw [HTL.out]; simp only [Fr.len]; omega
        case h2 => rw [HTL.out]; simp only [Fr.len]; omega
        case h3 => exact Nat.le_refl _
        intro v1 w5 hap
        obtain ⟨A5, c5, rfl⟩ : ∃ A5 c5, v1 = .slice A5 (n + 1) c5 := by
         obtain ⟨A5, c5, e⟩ := hap.1.shape
         rw [show (Fr.app .nil (Fr.take (n + 1) K)).len = (n + 1) from HTL.out] at e
         exact ⟨A5, c5, e⟩
        have HO1 : Hid (OwnG NdT 27 6 5 w5 w4.heap.size (Zone 0 (w.heap.size + 2) w4.heap.size) noB (.slice A5 (n + 1) c5) (Fr.take (n + 1) K)) := hHd hap.1
        have HW5 : Hid (Below w4.heap.size w4 w5) := hHd (AppGs.below hap HO0.out (Nat.le_refl _))
        have HE5 := hHd (HEs.out.below HW5.out HEs.out.lt)
        clear hap
        obtain ⟨q0, q1, q2, q3, q4, q5⟩ := cl6 HE5.out
        have HA5 : Hid (Below w5.heap.size w5 (w5.alloc (.cells (cN a1 (.slice Ax xf.len cx)) 27))) := hHd bAl
        have HWA : Hid (Below w4.heap.size w4 (w5.alloc (.cells (cN a1 (.slice Ax xf.len cx)) 27))) := hHd (HW5.out.trans (HA5.out.mono HW5.out.size))
        have HO1a : Hid (OwnG NdT 27 6 5 (w5.alloc (.cells (cN a1 (.slice Ax xf.len cx)) 27)) w4.heap.size (fun g => (Zone 0 (w.heap.size + 2) w4.heap.size) g ∨ g = w5.heap.size) noB (.slice A5 (n + 1) c5) (Fr.take (n + 1) K)) := hHd ((HO1.out.below stay_nd HA5.out).widen stay_nd (fun g hg => .inl hg) (fun _ h => h) (fun g hg => by
         have hs := HW5.out.size
         rcases hg with h | rfl
         ·exact (HO1.out.below stay_nd HA5.out).1 g h
         ·refine ⟨by simp, fun e => ?_⟩
          have := (HO1.out.lt _ e.symm).2
          omega) (fun g hg => hg.elim))
        have HR1 : Hid (FrV NdT 6 5 (w5.alloc (.cells (cN a1 (.slice Ax xf.len cx)) 27)) (fun g => (Zone 0 (w.heap.size + 2) w4.heap.size) g ∨ g = w5.heap.size) noB (.slice (some ⟨w5.heap.size, 0, none⟩) 1 1) (oneF (a1, xf))) := hHd
         (row_one (FrN.kept stay_nd HTX.out (fun g hg => HWA.out.block g (by rcases hg with h | h <;> omega)) (fun g hg => .inl hg) (fun _ h => h.elim) (fun _ h => h)) (.inr rfl) (Blk.new w5 27 (cN a1 (.slice Ax xf.len cx))))
        go_wp2_with (at_builtin; refine wpList_append_gs stay_nd one_nd Try.underlying25 Try.cellsNd rfl (by decide) rfl (.tmp 41) (.tmp 43) rfl rfl rfl HO1a.out rfl HR1.out ?h4 ?h5 ?h6 ?_)
        case h4 => rw [HTL.out]; simp only [oneF, Fr.len]; omega
        case h5 => rw [HTL.out]; simp only [oneF, Fr.len]; omega
        case h6 => exact HWA.out.size
        intro v2 w6 hap
        obtain ⟨A6, c6, rfl⟩ : ∃ A6 c6, v2 = .slice A6 (n + 1 + 1) c6 := by
         obtain ⟨A5, c5, e⟩ := hap.1.shape
         rw [Fr.len_app, HTL.out] at e
         exact ⟨A5, c5, e.trans (by simp [oneF, Fr.len])⟩
        have HO2 : Hid (OwnG NdT 27 6 5 w6 w4.heap.size (fun g => (Zone 0 (w.heap.size + 2) w4.heap.size) g ∨ g = w5.heap.size) noB (.slice A6 (n + 1 + 1) c6) ((Fr.take (n + 1) K).app (oneF (a1, xf)))) := hHd hap.1
        have HW6 : Hid (Below w4.heap.size w4 w6) := hHd (HWA.out.trans (AppGs.below hap HO1a.out HWA.out.size))
        clear hap q0 q1 q2 q3 q4 q5
        have HS2 : Hid (FrV NdT 6 5 w6 (fun g => (Zone 0 (w.heap.size + 2) w4.heap.size) g ∨ g = w5.heap.size) noB (.slice (some ⟨kg, (n + 1) * 6, none⟩) (j - (n + 1)) (kc - (n + 1))) (Fr.drop (n + 1) K)) := hHd (FrV.mono stay_nd (HUP.out w6 HW6.out _ _ (by
         have hk := HKs.out
         have hj := HKL.out
         exact back_part9 hj (by omega) hk)) (fun g hg => .inl hg) (fun _ h => h))
        go_wp2_with (at_builtin; refine wpList_append_gs stay_nd one_nd Try.underlying25 Try.cellsNd rfl (by decide) rfl (.tmp 45) (.tmp 48) rfl rfl rfl HO2.out rfl HS2.out ?h7 ?h8 ?h9 ?_)
        case h7 => rw [Fr.len_app, HTL.out, HDL.out]; simp only [oneF, Fr.len]; omega
        case h8 => rw [Fr.len_app, HTL.out, HDL.out]; simp only [oneF, Fr.len]; omega
        case h9 => exact HW6.out.size
        intro v3 w7 hap
        rw [ins_is HKL.out HPO.out] at hap
        have HW7 : Hid (Below w4.heap.size w4 w7) := hHd (HW6.out.trans (AppGs.below (g := insB (a1, xf) K) hap HO2.out HW6.out.size))
        obtain ⟨g3, c3, hv3, hc3⟩ := hap.1.some_ (by rw [insB_len]; omega)
        rw [insB_len, HKL.out] at hv3 hc3
        subst hv3
        have HK3 : Hid (FrV NdT 6 5 w7 (Zone 0 (w.heap.size + 2) w7.heap.size) noB (.slice (some ⟨g3, 0, none⟩) (j + 1) c3) (insB (a1, xf) K)) := hHd (FrV.mono stay_nd (hap.1.frv stay_nd) (fun g hg => by
         have hs5 := HW5.out.size
         have hs7 := HW7.out.size
         have hgs := HGS.out
         rcases hg with (h | h) | h
         ·rcases h with h | h
          ·omega
          ·exact .inr ⟨h.1, by omega⟩
         ·subst h; exact .inr ⟨by omega, (hap.1.1 w5.heap.size (.inr rfl)).1⟩
         ·have := hap.1.lt g h; exact .inr ⟨by omega, this.2⟩) (fun _ h => h))
        have HX7 := hHd (HXs.out.below HW7.out HXs.out.lt)
        have HZ7 := hHd (HZs.out.below HW7.out HZs.out.lt)
        have HB7 := hHd (HBs.out.trans (HW7.out.mono HBs.out.size))
        have HC3 := hHd hc3
        have HG7 : Hid (w.heap.size + 2 ≤ w7.heap.size) := hHd (Nat.le_trans HGS.out HW7.out.size)
        clear hap hc3
        go_wp2
        go_roundw
        case rel => exact ⟨j + 1, by omega, by go_num, HX7.out, HZ7.out, HB7.out, hHd ⟨by rw [sort_step HGE.out, ← HXF.out, ← HKD.out]; exact HK3.out, .inr ⟨g3, c3, rfl, HC3.out⟩, HG7.out⟩⟩
        case measure => simp [intOf]; omega
  ·have i2 : ¬ (j : Int) < (f.len : Int) := by omega
   obtain ⟨kv, hkvv⟩ : ∃ kv, kv = u3 := ⟨_, rfl⟩
   subst hkvv
   have HKE : Hid (RowP 0 (w.heap.size + 2) wo kv (sortA .nil f)) := hHd (by
    have h := hkv
    rw [show j = f.len by omega, Fr.take_all] at h
    exact h)
   have hgs' := hgs
   obtain ⟨A9, c9, e9⟩ := HKE.out.shape
   obtain ⟨R, hR⟩ : ∃ z, z = sortA .nil f := ⟨_, rfl⟩
   rw [← hR] at e9
   have HRD := hHd hR
   subst e9
   have HX := hHd hX
   have HZ := hHd hZ
   have HB := hHd hB
   have HG := hHd hgs
   have HKE' : Hid (RowP 0 (w.heap.size + 2) wo (.slice A9 R.len c9) R) := hHd (by rw [hR]; rw [hR] at HKE; exact HKE.out)
   clear hX hZ hB hgs hgs' hkv hsh HR HKE hR
   rw [← HRD.out]
   have HX4 : Hid (Blk (wo.setCell ⟨w.heap.size, 5, none⟩ (.slice A9 R.len c9)) w.heap.size 27 (cN a (.slice A9 R.len c9))) := hHd (by
    have h := HX.out.set_ 5 (.slice A9 R.len c9)
    simp only [layS] at h
    exact h)
   have HZ4 : Hid (Blk (wo.setCell ⟨w.heap.size, 5, none⟩ (.slice A9 R.len c9)) (w.heap.size + 1) 27 #[.string ⟨#[]⟩, .string ⟨#[]⟩, .int .i64 0, .int .u64 0, .string ⟨#[]⟩, .slice none 0 0]) := hHd (HZ.out.far (p := ⟨w.heap.size, 5, none⟩) (by show w.heap.size + 1 ≠ w.heap.size; omega) _)
   have g5 : wo.frozen? ⟨w.heap.size, 5, none⟩ = false := HX.out.frozen 5
   have p5' := (HX.out.cell 5).trans rfl
   obtain ⟨q0, q1, q2, q3, q4, q5⟩ := cl6 HX4.out
   have fz0 : ((wo.setCell ⟨w.heap.size, 5, none⟩ (.slice A9 R.len c9))).frozen? ⟨w.heap.size + 1, 0, none⟩ = false := HZ4.out.frozen 0
   have fq0 := (HZ4.out.cell 0).trans rfl
   have fz1 : ((wo.setCell ⟨w.heap.size, 5, none⟩ (.slice A9 R.len c9))).frozen? ⟨w.heap.size + 1, 1, none⟩ = false := HZ4.out.frozen 1
   have fq1 := (HZ4.out.cell 1).trans rfl
   have fz2 : ((wo.setCell ⟨w.heap.size, 5, none⟩ (.slice A9 R.len c9))).frozen? ⟨w.heap.size + 1, 2, none⟩ = false := HZ4.out.frozen 2
   have fq2 := (HZ4.out.cell 2).trans rfl
   have fz3 : ((wo.setCell ⟨w.heap.size, 5, none⟩ (.slice A9 R.len c9))).frozen? ⟨w.heap.size + 1, 3, none⟩ = false := HZ4.out.frozen 3
   have fq3 := (HZ4.out.cell 3).trans rfl
   have fz4 : ((wo.setCell ⟨w.heap.size, 5, none⟩ (.slice A9 R.len c9))).frozen? ⟨w.heap.size + 1, 4, none⟩ = false := HZ4.out.frozen 4
   have fq4 := (HZ4.out.cell 4).trans rfl
   have fz5 : ((wo.setCell ⟨w.heap.size, 5, none⟩ (.slice A9 R.len c9))).frozen? ⟨w.heap.size + 1, 5, none⟩ = false := HZ4.out.frozen 5
   have fq5 := (HZ4.out.cell 5).trans rfl
   go_wp2
   have HBZ : Hid (Below w.heap.size w (set6 (wo.setCell ⟨w.heap.size, 5, none⟩ (.slice A9 R.len c9)) (w.heap.size + 1) (.string (txt a.name)) (.string (txt a.key)) (.int .i64 a.kind) (.int .u64 (a.num : Int)) (.string (txt a.text)) (.slice A9 R.len c9))) := hHd ((HB.out.setCell (p := ⟨w.heap.size, 5, none⟩) (Nat.le_refl _) _).trans (set6_below (by omega)))
   have HVZ : Hid (RowP 0 w.heap.size (set6 (wo.setCell ⟨w.heap.size, 5, none⟩ (.slice A9 R.len c9)) (w.heap.size + 1) (.string (txt a.name)) (.string (txt a.key)) (.int .i64 a.kind) (.int .u64 (a.num : Int)) (.string (txt a.text)) (.slice A9 R.len c9)) (.slice A9 R.len c9) R) := hHd (by
    have hz : (set6 (wo.setCell ⟨w.heap.size, 5, none⟩ (.slice A9 R.len c9)) (w.heap.size + 1) (.string (txt a.name)) (.string (txt a.key)) (.int .i64 a.kind) (.int .u64 (a.num : Int)) (.string (txt a.text)) (.slice A9 R.len c9)).heap.size = wo.heap.size := by rw [set6_size]; simp [World.setCell]
    refine FrV.kept stay_nd HKE'.out (fun g hg => ?_) (fun g hg => ?_) (fun _ h => h.elim) (fun _ h => h)
    ·have hne : g ≠ w.heap.size ∧ g ≠ w.heap.size + 1 := by rcases hg with hg | hg <;> omega
     exact (set6_other hne.2).trans (Below.heap_setCell _ _ _ _ hne.1)
    ·rw [hz]
     rcases hg with h | h
     ·exact .inl h
     ·exact .inr ⟨by omega, h.2⟩)
   refine bodyPost_ret (results_cell_row rfl _ _ (w.heap.size + 1) 27 _ (0, 0) _ rfl (HZ4.out.set6 _ _ _ _ _ _) Try.underlying27 rfl (by kernel_rfl)) rfl ?_
   exact ⟨_, rfl, by rw [← HRD.out]; exact LieP.make HVZ.out, HBZ.out⟩
theorem rsort_any (x : Nd) (cs : List Value) (w : World) (hx : LieN w cs x) (hf : Few9 x) : Calls Try.prog 18 #[.agg cs.toArray] w (PTreP1 0 (sortX x) w) := by
 obtain ⟨A, c, rfl, hk⟩ := hx.shape
 exact rsortf_any x.2 x.1 A c w hk hf
end Go.Proofs.Ythmobcaidhgeaaa
