/- TrvE TrvF -/
import Derived.Test.YthmobcaidhgeaaaAM16
set_option linter.unusedSimpArgs false
set_option linter.unusedVariables false
set_option maxRecDepth 100000
set_option maxHeartbeats 8000000
namespace Go.Proofs.Ythmobcaidhgeaaa
open Go.RowKit
def CloneP (b : Nat) (f : NdF) (w : World) (r : Ending) (w' : World) : Prop := ∃ v xs, r = .returned v ∧ OwnK 27 6 w' w.heap.size v f.len xs ∧ rowG NdT 6 5 w (fun g => g < b) noB xs f ∧ Below w.heap.size w w'
theorem clone_none (b : Nat) (f : NdF) (c : Nat) (w : World) (hf : f.len = 0) : Calls Try.prog 45 #[.slice none f.len c] w (CloneP b f w) := by
 have e : f = .nil := by
  cases f with
  | nil => rfl
  | cons => simp [Fr.len] at hf
 subst e
 have HC : Hid (CloneP b (.nil : NdF) w (.returned (.slice none 0 0)) w) := hHd ⟨_, [], rfl, OwnK.nil _ _ _ _, rfl, Below.refl _ _⟩
 clear hf
 have e9 : ∀ W, (binOp .eql 25 (.slice none (Fr.nil : NdF).len c) (.slice none 0 0)).run Try.prog W = .ok (.bool true) W := fun W => Go.Lib.run_eql_slice_nil W _ _ _ _ _ _ _ Try.underlying25
 go_enter Try.func45, Try.ntmps45
 go_wp2
 go_ret
 exact HC.out
theorem clone_some (b : Nat) (f : NdF) (ad : Addr) (c : Nat) (w : World) (hbw : b ≤ w.heap.size) (hk : RowT b w (.slice (some ad) f.len c) f) (hl : f.len ≤ 1000000) : Calls Try.prog 45 #[.slice (some ad) f.len c] w (CloneP b f w) := by
 have HB : Hid (Below w.heap.size w (w.alloc (.cells #[] 27))) := hHd bAl
 have hbk : Blk (w.alloc (.cells #[] 27)) w.heap.size 27 #[] := Blk.new _ _ _
 have HO : Hid (OwnG NdT 27 6 5 (w.alloc (.cells #[] 27)) w.heap.size (fun g => g < b) noB (.slice (some ⟨w.heap.size, 0, none⟩) 0 0) (.nil : NdF)) := hHd
  (OwnG.lit (f := .nil) (xs := []) hbk (Nat.le_refl _) (by simp [Fr.len]) rfl (fun k hk => ⟨by simp; omega, by omega⟩) (fun k hk => hk.elim))
 have HS : Hid (FrV NdT 6 5 (w.alloc (.cells #[] 27)) (fun g => g < b) noB (.slice (some ad) f.len c) f) := hHd (FrV.kept stay_nd hk (fun g hg => HB.out.block g (Nat.lt_of_lt_of_le hg hbw)) (fun _ h => h) (fun _ h => h.elim) (fun _ h => h))
 have HL := hHd hl
 have HBW := hHd hbw
 have HL2 : Hid ((Fr.nil : NdF).len = 0) := hHd rfl
 clear hk hl hbk hbw
 have e9 : ∀ W, (binOp .eql 25 (.slice (some ad) f.len c) (.slice none 0 0)).run Try.prog W = .ok (.bool false) W := fun W => Go.Lib.run_eql_slice_nil W _ _ _ _ _ _ _ Try.underlying25
 go_enter Try.func45, Try.ntmps45
 go_wp2_with (at_builtin; refine wpList_append_gs stay_nd one_nd Try.underlying25 Try.cellsNd rfl (by decide) rfl (.tmp 5) (.tmp 6) rfl rfl rfl HO.out rfl HS.out ?h1 ?h2 ?h3 ?_)
 case h1 => have := HL.out; rw [HL2.out]; omega
 case h2 => have := HL.out; rw [HL2.out]; omega
 case h3 => simp
 intro v' w' hap
 have HP : Hid (CloneP b f w (.returned v') w') := hHd (by
  have hB := HB.out.trans (AppGs.below hap HO.out (by simp))
  obtain ⟨⟨hs, hn, xs, k1, k2⟩, h2, h3⟩ := hap
  exact ⟨v', xs, rfl, k1, k2.kept stay_nd (fun g hg => (hB.block g (Nat.lt_of_lt_of_le hg HBW.out)).symm) (fun _ h => h) (fun _ h => h.elim) (fun _ h => h), hB⟩)
 clear hap
 obtain ⟨v2, hv2⟩ : ∃ v2, v2 = v' := ⟨_, rfl⟩
 subst hv2
 go_wp2
 go_ret
 exact HP.out
theorem clone_any (b : Nat) (f : NdF) (A : Option Addr) (c : Nat) (w : World) (hbw : b ≤ w.heap.size) (hk : RowT b w (.slice A f.len c) f) (hl : f.len ≤ 1000000) : Calls Try.prog 45 #[.slice A f.len c] w (CloneP b f w) := by
 cases A with
 | none =>
  refine clone_none b f c w ?_
  obtain ⟨A', c', e, h1, h2⟩ := hk
  injection e with e1 e2 e3
  subst e1
  by_cases h0 : 0 < f.len
  ·obtain ⟨_, _, he, _⟩ := h2 h0
   cases he
  ·omega
 | some ad => exact clone_some b f ad c w hbw hk hl
def CopP (a : NdD) (f : NdF) (w : World) (r : Ending) (w' : World) : Prop := ∃ v F, r = .returned (.agg (cN a v)) ∧ OwnU w' w.heap.size v f F ∧ F.Nodup ∧ Below w.heap.size w w'
def CopI (w : World) (M : Nat) (f : NdF) (v : Value) (j : Nat) (wr : World) : Prop := ∃ zs rest F, OwnK 27 6 wr w.heap.size v f.len (zs ++ rest) ∧ OwnT wr w.heap.size (Fr.take j f) zs F ∧ rowG NdT 6 5 w (fun g => g < w.heap.size) noB rest (Fr.drop j f) ∧ F.Nodup ∧ ∀ g, g ∈ F → M ≤ g
theorem cells6 {l : List Value} (h : l.length = 6) : ∃ y0 y1 y2 y3 y4 y5, l = [y0, y1, y2, y3, y4, y5] := by
 match l, h with
 | [y0, y1, y2, y3, y4, y5], _ => exact ⟨y0, y1, y2, y3, y4, y5, rfl⟩
theorem cop_kid {w wr : World} {M b c j : Nat} {f q : NdF} {a1 : NdD} (h : CopI w M f (.slice (some ⟨b, 0, none⟩) f.len c) j wr) (hy : f.get? j = some (a1, q)) :
  ∃ A' c', (∀ i u, (ndC a1 (.slice A' q.len c'))[i]? = some u → wr.cell? ⟨b, j * 6 + i, none⟩ = some u) ∧ RowT w.heap.size w (.slice A' q.len c') q := by
 obtain ⟨zs, rest, F, h1, h2, h3, h4, h5⟩ := h
 have hlt := Fr.get_lt hy
 rw [(Fr.get_drop hy).1] at h3
 obtain ⟨cs, ys, rfl, h6, h7⟩ := h3
 obtain ⟨A', c', rfl, hr⟩ := LieB.shape (x := (a1, q)) h6
 refine ⟨A', c', fun i u hu => ?_, hr⟩
 have hi : i < 6 := (List.getElem?_eq_some_iff.1 hu).1
 have hz : zs.length = j * 6 := by rw [h2.len, Fr.len_take _ _ (by omega)]
 have h8 := World.ownsRow.cellAt h1 (j * 6 + i) (by omega)
 rw [h8, List.getElem?_append_right (by omega), hz, show j * 6 + i - j * 6 = i by omega, List.getElem?_append_left (by simpa using hi)]
 exact hu
theorem cop_step {w wr w3 : World} {M B1 b c j : Nat} {f q : NdF} {a1 : NdD} {v1 : Value} {F1 : List Nat} (h : CopI w M f (.slice (some ⟨b, 0, none⟩) f.len c) j wr) (hy : f.get? j = some (a1, q)) (hw : w.heap.size ≤ wr.heap.size) (hb : Below wr.heap.size wr w3) (hM : M ≤ wr.heap.size) (hbM : b < M)
  (hU : OwnU w3 B1 v1 q F1) (hB1 : wr.heap.size ≤ B1) (hnd : F1.Nodup) : CopI w M f (.slice (some ⟨b, 0, none⟩) f.len c) (j + 1) (set6o w3 b (j * 6) (.string (txt a1.name)) (.string (txt a1.key)) (.int .i64 a1.kind) (.int .u64 (a1.num : Int)) (.string (txt a1.text)) v1) := by
 obtain ⟨zs, rest, F, h1, h2, h3, h4, h5⟩ := h
 have hlt := Fr.get_lt hy
 rw [(Fr.get_drop hy).1] at h3
 obtain ⟨cs, ys, rfl, h6, h7⟩ := h3
 have hz : zs.length = j * 6 := by rw [h2.len, Fr.len_take _ _ (by omega)]
 obtain ⟨y0, y1, y2, y3, y4, y5, rfl⟩ := cells6 h6.1
 have hF : ∀ g, g ∈ F → g < wr.heap.size := fun g hg => (h2.fresh g hg).lt
 have hF1 : ∀ g, g ∈ F1 → wr.heap.size ≤ g := fun g hg => Nat.le_trans hB1 (hU.fresh g hg).1
 have k1 := OwnK.set6o (h1.below hb) hz (.string (txt a1.name)) (.string (txt a1.key)) (.int .i64 a1.kind) (.int .u64 (a1.num : Int)) (.string (txt a1.text)) v1
 refine ⟨zs ++ ndC a1 v1, ys, F ++ F1, by rw [List.append_assoc]; exact k1, ?_, h7, ?_, ?_⟩
 ·rw [(Fr.get_drop hy).2]
  exact OwnT.app (OwnT.one (hU.keep (fun g hg => set6o_other (by have := hF1 g hg; omega)) (by omega))) (h2.keep (Nat.le_refl _) (fun g hg => (set6o_other (by have := h5 g hg; omega)).trans (hb.block g (hF g hg))))
 ·rw [List.nodup_append]
  exact ⟨h4, hnd, fun x hx y hy e => by have := hF x hx; have := hF1 y hy; omega⟩
 ·intro g hg
  rcases List.mem_append.1 hg with hg | hg
  ·exact h5 g hg
  ·have := hF1 g hg; omega
theorem CopI.keep {w wr wr' : World} {M j : Nat} {f : NdF} {v : Value} (h : CopI w M f v j wr) (hk : ∀ g, (v.ownBlock = some g ∨ M ≤ g) → g < wr.heap.size → wr'.heap[g]? = wr.heap[g]?) : CopI w M f v j wr' := by
 obtain ⟨zs, rest, F, h1, h2, h3, h4, h5⟩ := h
 exact ⟨zs, rest, F, h1.keep (fun g hg => hk g (.inl hg) (h1.lt g hg).2), h2.keep (Nat.le_refl _) (fun g hg => hk g (.inr (h5 g hg)) (h2.fresh g hg).lt), h3, h4, h5⟩
theorem cop_end {w wr : World} {M : Nat} {f : NdF} {v : Value} (h : CopI w M f v f.len wr) (hv : ∀ g, v.ownBlock = some g → g < M) : ∃ F, OwnU wr w.heap.size v f F ∧ F.Nodup ∧ ∀ g, g ∈ F → v.ownBlock = some g ∨ M ≤ g := by
 obtain ⟨zs, rest, F, h1, h2, h3, h4, h5⟩ := h
 rw [Fr.drop_all] at h3
 rw [show rest = [] from h3, List.append_nil] at h1
 rw [Fr.take_all] at h2
 have hm : ∀ g, g ∈ v.ownBlock.toList ++ F → v.ownBlock = some g ∨ M ≤ g := fun g hg => by
  rcases List.mem_append.1 hg with hg | hg
  ·exact .inl (by simpa using hg)
  ·exact .inr (h5 g hg)
 refine ⟨v.ownBlock.toList ++ F, ⟨zs, F, rfl, h1, h2⟩, ?_, hm⟩
 clear hm
 cases hb : v.ownBlock with
 | none => simpa using h4
 | some g =>
  simp only [Option.toList, List.cons_append, List.nil_append, List.nodup_cons]
  exact ⟨fun hm => by have := h5 g hm; have := hv g hb; omega, h4⟩
theorem cop_frozen {w wr : World} {M b c j : Nat} {f : NdF} (h : CopI w M f (.slice (some ⟨b, 0, none⟩) f.len c) j wr) (o : Nat) : wr.frozen? ⟨b, o, none⟩ = false := by
 obtain ⟨zs, rest, F, h1, -⟩ := h
 rcases h1.2 with ⟨h', _⟩ | ⟨g, cap, cur, h', _, hg, _⟩
 ·cases h'
 ·injection h' with h'
  injection h' with h'
  injection h' with h'
  subst h'
  simp [World.frozen?, hg]
def CopyP (f : NdF) : Prop := ∀ (a : NdD) (A : Option Addr) (c : Nat) (w : World), RowT w.heap.size w (.slice A f.len c) f → f.size ≤ 1000000 →
  Calls Try.prog 35 #[.agg (cN a (.slice A f.len c))] w (CopP a f w)
theorem copy_row (f : NdF) (hkids : ∀ n a k, f.get? n = some (a, k) → CopyP k) : CopyP f := by
 intro a A c w hk hsz
 obtain ⟨h1, h2, h3, h4⟩ := get_boxes a f A c w (LieB.make hk)
 have HI := hHd hkids
 have HZS : Hid (f.size ≤ 1000000) := hHd hsz
 have HQ := hHd (And.intro h1 (And.intro h2 h3))
 have hs0 : ((w.alloc (.cells (cN a (.slice A f.len c)) 27)).alloc (.cells #[.string ⟨#[]⟩, .string ⟨#[]⟩, .int .i64 0, .int .u64 0, .string ⟨#[]⟩, .slice none 0 0] 27)).heap.size = w.heap.size + 2 := by simp
 have HC : Hid (Calls Try.prog 45 #[.slice A f.len c] ((w.alloc (.cells (cN a (.slice A f.len c)) 27)).alloc (.cells #[.string ⟨#[]⟩, .string ⟨#[]⟩, .int .i64 0, .int .u64 0, .string ⟨#[]⟩, .slice none 0 0] 27)) (CloneP w.heap.size f ((w.alloc (.cells (cN a (.slice A f.len c)) 27)).alloc (.cells #[.string ⟨#[]⟩, .string ⟨#[]⟩, .int .i64 0, .int .u64 0, .string ⟨#[]⟩, .slice none 0 0] 27)))) := hHd (clone_any w.heap.size f A c ((w.alloc (.cells (cN a (.slice A f.len c)) 27)).alloc (.cells #[.string ⟨#[]⟩, .string ⟨#[]⟩, .int .i64 0, .int .u64 0, .string ⟨#[]⟩, .slice none 0 0] 27)) h3.size (hk.under h3 (Nat.le_refl _) (Nat.le_refl _)) (Nat.le_trans (Fr.len_size f) hsz))
 have HK : Hid (RowT w.heap.size w (.slice A f.len c) f) := hHd hk
 have HS0 := hHd hs0
 obtain ⟨q0, q1, q2, q3, q4, q5⟩ := cl6 HQ.out.1
 clear hkids hk hsz h1 h2 h3 h4 hs0
 go_enter Try.func35, Try.ntmps35
 go_wp2_with fail
 refine HC.out.mono ?_
 rintro r w2 ⟨v, xs, rfl, hown, hrow, hb2⟩
 obtain ⟨A1, c1, rfl⟩ := hown.shape
 have HX2 := hHd (HQ.out.1.below hb2 HQ.out.1.lt)
 have HZ2 := hHd (HQ.out.2.1.below hb2 HQ.out.2.1.lt)
 have HB2 := hHd (HQ.out.2.2.trans (hb2.mono HQ.out.2.2.size))
 have HX3 : Hid (Blk (w2.setCell ⟨w.heap.size, 5, none⟩ (.slice A1 f.len c1)) w.heap.size 27 (cN a (.slice A1 f.len c1))) := hHd (by
  have h := HX2.out.set_ 5 (.slice A1 f.len c1)
  simp only [layS] at h
  exact h)
 have HZ3 : Hid (Blk (w2.setCell ⟨w.heap.size, 5, none⟩ (.slice A1 f.len c1)) (w.heap.size + 1) 27 #[.string ⟨#[]⟩, .string ⟨#[]⟩, .int .i64 0, .int .u64 0, .string ⟨#[]⟩, .slice none 0 0]) := hHd (HZ2.out.far (p := ⟨w.heap.size, 5, none⟩) (by show w.heap.size + 1 ≠ w.heap.size; omega) _)
 have HB3 : Hid (Below w.heap.size w (w2.setCell ⟨w.heap.size, 5, none⟩ (.slice A1 f.len c1))) := hHd (HB2.out.setCell (p := ⟨w.heap.size, 5, none⟩) (Nat.le_refl _) _)
 have HVB : Hid (∀ g, (Value.slice A1 f.len c1).ownBlock = some g → w.heap.size + 2 ≤ g ∧ g < w2.heap.size) := hHd (fun g hg => by
  have := hown.lt g hg
  have := HS0.out
  omega)
 have HMS : Hid (w.heap.size + 2 ≤ w2.heap.size) := hHd (by have := hb2.size; have := HS0.out; omega)
 have HCI : Hid (CopI w w2.heap.size f (.slice A1 f.len c1) 0 (w2.setCell ⟨w.heap.size, 5, none⟩ (.slice A1 f.len c1))) := hHd ⟨[], xs, [], (OwnK.mono hown (by have := HS0.out; omega)).keep (fun g hg => Below.heap_setCell _ _ _ _ (by have := HVB.out g hg; show g ≠ w.heap.size; omega)), by cases f <;> exact ⟨rfl, rfl⟩,
  by
   have hy := hrow.kept (w' := w) stay_nd (fun g hg => (HQ.out.2.2.block g hg).symm) (fun _ h => h) (fun _ h => h.elim) (fun _ h => h)
   cases f <;> exact hy, List.nodup_nil, fun g hg => by cases hg⟩
 have g5 : w2.frozen? ⟨w.heap.size, 5, none⟩ = false := HX2.out.frozen 5
 have p5' := (HX2.out.cell 5).trans rfl
 obtain ⟨p0, p1, p2, p3, p4, p5⟩ := cl6 HX3.out
 clear hown hrow hb2 q0 q1 q2 q3 q4 q5
 go_wp2
 go_loopw [12] (fun i wr => ∃ j : Nat, j ≤ f.len ∧ i = .int .i64 (j : Int) ∧ Blk wr w.heap.size 27 (cN a (.slice A1 f.len c1)) ∧ Blk wr (w.heap.size + 1) 27 #[.string ⟨#[]⟩, .string ⟨#[]⟩, .int .i64 0, .int .u64 0, .string ⟨#[]⟩, .slice none 0 0] ∧ Below w.heap.size w wr ∧ w2.heap.size ≤ wr.heap.size ∧ Hid (CopI w w2.heap.size f (.slice A1 f.len c1) j wr)) (fun i _ => f.len - (intOf i).toNat)
 case atStart => exact ⟨0, Nat.zero_le _, rfl, HX3.out, HZ3.out, HB3.out, by simp [World.setCell], HCI.out⟩
 case round =>
  clear p0 p1 p2 p3 p4 p5 p5' g5 HX2 HZ2 HB2 HX3 HZ3 HB3 HCI
  obtain ⟨j, hj, rfl, hX, hZ, hB, hM, HC⟩ := hrel
  have HBr := hHd hB
  by_cases hlt : j < f.len
  ·obtain ⟨a1, q, hg⟩ := Fr.get_some hlt
   obtain ⟨b, hb⟩ : ∃ b, A1 = some ⟨b, 0, none⟩ := by
    obtain ⟨_, _, _, h1, _⟩ := HC.out
    rcases h1.2 with ⟨h, h0⟩ | ⟨g, cap, cur, h, _⟩
    ·omega
    ·injection h with h
     exact ⟨g, h⟩
   subst hb
   obtain ⟨A', c', hcl, hr⟩ := cop_kid HC.out hg
   have hbv := HVB.out b rfl
   have s0 : wr.cell? ⟨b, j * 6, none⟩ = _ := hcl 0 _ rfl
   have s1 : wr.cell? ⟨b, j * 6 + 1, none⟩ = _ := hcl 1 _ rfl
   have s2 : wr.cell? ⟨b, j * 6 + 2, none⟩ = _ := hcl 2 _ rfl
   have s3 : wr.cell? ⟨b, j * 6 + 3, none⟩ = _ := hcl 3 _ rfl
   have s4 : wr.cell? ⟨b, j * 6 + 4, none⟩ = _ := hcl 4 _ rfl
   have s5 : wr.cell? ⟨b, j * 6 + 5, none⟩ = _ := hcl 5 _ rfl
   have i1 : (0 : Int) ≤ (j : Int) := by omega
   have i2 : (j : Int) < (f.len : Int) := by omega
   have i3 : (f.len : Int) ≤ 1000000 := by have := HZS.out; have := Fr.len_size f; omega
   have hBK : Below w.heap.size w (wr.alloc (.cells (cN a1 (.slice A' q.len c')) 27)) := hB.alloc hB.size _
   have HI1 : Hid (Calls Try.prog 35 #[.agg (cN a1 (.slice A' q.len c'))] (wr.alloc (.cells (cN a1 (.slice A' q.len c')) 27)).drew (CopP a1 q (wr.alloc (.cells (cN a1 (.slice A' q.len c')) 27)).drew)) := hHd
    (HI.out j a1 q hg a1 A' c' (wr.alloc (.cells (cN a1 (.slice A' q.len c')) 27)).drew (hr.under hBK.drew (Nat.le_refl _) hBK.drew.size) (by have := HZS.out; have := Fr.size_get hg; omega))
   have HXD : Hid (Blk (wr.alloc (.cells (cN a1 (.slice A' q.len c')) 27)).drew w.heap.size 27 (cN a (.slice (some ⟨b, 0, none⟩) f.len c1)) ∧ Blk (wr.alloc (.cells (cN a1 (.slice A' q.len c')) 27)).drew wr.heap.size 27 (cN a1 (.slice A' q.len c'))) := hHd ⟨hX.alloc _, Blk.new wr 27 _⟩
   have HZD : Hid (Blk (wr.alloc (.cells (cN a1 (.slice A' q.len c')) 27)).drew (w.heap.size + 1) 27 #[.string ⟨#[]⟩, .string ⟨#[]⟩, .int .i64 0, .int .u64 0, .string ⟨#[]⟩, .slice none 0 0]) := hHd (hZ.alloc _)
   have HBD := hHd hBK.drew
   have HBS : Hid (Below wr.heap.size wr (wr.alloc (.cells (cN a1 (.slice A' q.len c')) 27)).drew) := hHd bAl.drew
   have HM := hHd hM
   have HG := hHd hg
   have HBV := hHd hbv
   clear hg hcl hr hX hZ hB hM hBK hbv
   go_wp2_with fail
   clear s0 s1 s2 s3 s4 s5
   refine wp_region_noPanic ?_
   refine wp_region_held_drew (S := fun _ => True) (by kernel_rfl) trivial (fun hS => ?_)
   refine held_more (S' := fun w' => Blk w' w.heap.size 27 (cN a (.slice (some ⟨b, 0, none⟩) f.len c1)) ∧ Blk w' wr.heap.size 27 (cN a1 (.slice A' q.len c'))) (fun _ _ => trivial) _ _ _ _ ?_
   replace hS := HXD.out
   refine tkH 0 hS ?_
   refine tkH 1 hS ?_ (hy := fun w hSw => by have q5 := (hSw.1.cell 5).trans rfl; (go_simp <;> with_reducible rfl))
   refine tkH 2 hS ?_
   refine tkH 3 hS ?_ (hy := fun w hSw => by obtain ⟨q0, q1, q2, q3, q4, q5⟩ := cl6 hSw.2; (go_simp <;> with_reducible rfl))
   refine rdy1 4 fun K hK => ?_
   go_simp
   refine HI1.out.mono ?_
   rintro r w3 ⟨v1, F1, rfl, hU, hnd, hb3⟩
   have HU := hHd hU
   have HND := hHd hnd
   have HX6 := hHd (And.intro (HXD.out.1.below hb3 HXD.out.1.lt) (HXD.out.2.below hb3 HXD.out.2.lt))
   have HZ6 := hHd (HZD.out.below hb3 HZD.out.lt)
   have HB6 := hHd (HBD.out.trans (hb3.mono HBD.out.size))
   have HW6 := hHd (HBS.out.trans (hb3.mono HBS.out.size))
   obtain ⟨A9, c9, e9⟩ := hU.shape
   subst e9
   clear hU hnd hb3
   go_wp2_with fail
   refine hK.out _ _ ?sr_0 (fun hS => ?_)
   case sr_0 => (exact HX6.out)
   clear hK K
   (try simp only [Act.put, layS])
   refine tkH 5 hS ?_
   refine rdy1 6 fun K hK => ?_
   have HC3 := hHd (HC.out.keep (wr' := w3) (fun g _ hl => HW6.out.block g hl))
   obtain ⟨A7, c7, hcl3, -⟩ := cop_kid HC3.out HG.out
   have fz0 : (w3).frozen? ⟨b, j * 6, none⟩ = false := cop_frozen HC3.out _
   have fq0 : w3.cell? ⟨b, j * 6, none⟩ = _ := hcl3 0 _ rfl
   have fz1 : (w3).frozen? ⟨b, j * 6 + 1, none⟩ = false := cop_frozen HC3.out _
   have fq1 : w3.cell? ⟨b, j * 6 + 1, none⟩ = _ := hcl3 1 _ rfl
   have fz2 : (w3).frozen? ⟨b, j * 6 + 2, none⟩ = false := cop_frozen HC3.out _
   have fq2 : w3.cell? ⟨b, j * 6 + 2, none⟩ = _ := hcl3 2 _ rfl
   have fz3 : (w3).frozen? ⟨b, j * 6 + 3, none⟩ = false := cop_frozen HC3.out _
   have fq3 : w3.cell? ⟨b, j * 6 + 3, none⟩ = _ := hcl3 3 _ rfl
   have fz4 : (w3).frozen? ⟨b, j * 6 + 4, none⟩ = false := cop_frozen HC3.out _
   have fq4 : w3.cell? ⟨b, j * 6 + 4, none⟩ = _ := hcl3 4 _ rfl
   have fz5 : (w3).frozen? ⟨b, j * 6 + 5, none⟩ = false := cop_frozen HC3.out _
   have fq5 : w3.cell? ⟨b, j * 6 + 5, none⟩ = _ := hcl3 5 _ rfl
   clear hcl3
   go_simp
   refine hK.out _ _ ?sr_1 (fun hS => ?_)
   case sr_1 => (exact ⟨(set6o_other (w := w3) (b := b) (by have := HBV.out; omega)).trans HX6.out.1, (set6o_other (w := w3) (b := b) (by have := HBV.out; have := HM.out; omega)).trans HX6.out.2⟩)
   clear hK K
   (try simp only [Act.put, layS])
   refine wpAnyH_done (by kernel_rfl) ?_ _
   refine NoPanic.normal ?_
   clear hS
   have HCN : Hid (CopI w w2.heap.size f (.slice (some ⟨b, 0, none⟩) f.len c1) (j + 1) (set6o w3 b (j * 6) (.string (txt a1.name)) (.string (txt a1.key)) (.int .i64 a1.kind) (.int .u64 (a1.num : Int)) (.string (txt a1.text)) (.slice A9 q.len c9))) := hHd (cop_step HC.out HG.out HBr.out.size HW6.out HM.out HBV.out.2 HU.out HBS.out.size HND.out)
   have HXN : Hid (Blk (set6o w3 b (j * 6) (.string (txt a1.name)) (.string (txt a1.key)) (.int .i64 a1.kind) (.int .u64 (a1.num : Int)) (.string (txt a1.text)) (.slice A9 q.len c9)) w.heap.size 27 (cN a (.slice (some ⟨b, 0, none⟩) f.len c1))) := hHd ((set6o_other (w := w3) (b := b) (by have := HBV.out; omega)).trans HX6.out.1)
   have HZN : Hid (Blk (set6o w3 b (j * 6) (.string (txt a1.name)) (.string (txt a1.key)) (.int .i64 a1.kind) (.int .u64 (a1.num : Int)) (.string (txt a1.text)) (.slice A9 q.len c9)) (w.heap.size + 1) 27 #[.string ⟨#[]⟩, .string ⟨#[]⟩, .int .i64 0, .int .u64 0, .string ⟨#[]⟩, .slice none 0 0]) := hHd ((set6o_other (w := w3) (b := b) (by have := HBV.out; omega)).trans HZ6.out)
   have HBN : Hid (Below w.heap.size w (set6o w3 b (j * 6) (.string (txt a1.name)) (.string (txt a1.key)) (.int .i64 a1.kind) (.int .u64 (a1.num : Int)) (.string (txt a1.text)) (.slice A9 q.len c9))) := hHd (HB6.out.trans (set6o_below (by have := HBV.out; omega)))
   have HMN : Hid (w2.heap.size ≤ ((set6o w3 b (j * 6) (.string (txt a1.name)) (.string (txt a1.key)) (.int .i64 a1.kind) (.int .u64 (a1.num : Int)) (.string (txt a1.text)) (.slice A9 q.len c9))).heap.size) := hHd (by rw [set6o_size]; have := HM.out; have := HW6.out.size; omega)
   go_wp2
   go_roundw
   case rel => exact ⟨j + 1, by omega, by go_num, HXN.out, HZN.out, HBN.out, HMN.out, HCN.out⟩
   case measure => simp [intOf]; omega
  ·have i2 : ¬ (j : Int) < (f.len : Int) := by omega
   have HU : Hid (∃ F, OwnU wr w.heap.size (.slice A1 f.len c1) f F ∧ F.Nodup ∧ ∀ g, g ∈ F → w.heap.size + 2 ≤ g) := hHd (by
    have h := HC.out
    rw [show j = f.len by omega] at h
    obtain ⟨F, h1, h2, h3⟩ := cop_end h (fun g hg => (HVB.out g hg).2)
    exact ⟨F, h1, h2, fun g hg => by
     rcases h3 g hg with h | h
     ·exact (HVB.out g h).1
     ·have := HMS.out; omega⟩)
   obtain ⟨p0, p1, p2, p3, p4, p5⟩ := cl6 hX
   have fz0 : (wr).frozen? ⟨w.heap.size + 1, 0, none⟩ = false := hZ.frozen 0
   have fq0 := (hZ.cell 0).trans rfl
   have fz1 : (wr).frozen? ⟨w.heap.size + 1, 1, none⟩ = false := hZ.frozen 1
   have fq1 := (hZ.cell 1).trans rfl
   have fz2 : (wr).frozen? ⟨w.heap.size + 1, 2, none⟩ = false := hZ.frozen 2
   have fq2 := (hZ.cell 2).trans rfl
   have fz3 : (wr).frozen? ⟨w.heap.size + 1, 3, none⟩ = false := hZ.frozen 3
   have fq3 := (hZ.cell 3).trans rfl
   have fz4 : (wr).frozen? ⟨w.heap.size + 1, 4, none⟩ = false := hZ.frozen 4
   have fq4 := (hZ.cell 4).trans rfl
   have fz5 : (wr).frozen? ⟨w.heap.size + 1, 5, none⟩ = false := hZ.frozen 5
   have fq5 := (hZ.cell 5).trans rfl
   have HZ := hHd hZ
   clear hX hZ hB hM
   go_wp2
   have HP : Hid (CopP a f w (.returned (.agg (cN a (.slice A1 f.len c1)))) (set6 wr (w.heap.size + 1) (.string (txt a.name)) (.string (txt a.key)) (.int .i64 a.kind) (.int .u64 (a.num : Int)) (.string (txt a.text)) (.slice A1 f.len c1))) := hHd (by
    obtain ⟨F, h1, h2, h3⟩ := HU.out
    exact ⟨_, F, rfl, h1.keep (fun g hg => set6_other (by have := h3 g hg; omega)) (Nat.le_refl _), h2, HBr.out.trans (set6_below (by omega))⟩)
   refine bodyPost_ret (results_cell_row rfl _ _ (w.heap.size + 1) 27 _ (0, 0) _ rfl (HZ.out.set6 _ _ _ _ _ _) Try.underlying27 rfl (by kernel_rfl)) rfl ?_
   exact HP.out
theorem copy_any (f : NdF) : CopyP f := Fr.byKids copy_row f
theorem node_box {w : World} {g : Nat} {a : NdD} {f : NdF} {A : Option Addr} {c : Nat} (hb : Blk w g 27 (cN a (.slice A f.len c))) (hr : RowT w.heap.size w (.slice A f.len c) f) : NodeAt w g 0 (a, f) :=
 ⟨hb.lt, A, c, fun j u hu => by rw [Nat.zero_add, hb.cell]; simpa using hu, hr⟩
theorem get_any (a : NdD) (f : NdF) (A : Option Addr) (c : Nat) (l : List Stp) (v : Value) (w : World) (hk : RowT w.heap.size w (.slice A f.len c) f) (hv : WayV w.heap.size w v l) (hf : f.size ≤ 1000000) (hll : l.length ≤ 1000000) :
  Calls Try.prog 25 #[.agg (cN a (.slice A f.len c)), v] w (TreP (GetX (a, f) l).1 (.bool (GetX (a, f) l).2) w) := by
 obtain ⟨h1, h2, h3, h4⟩ := get_boxes a f A c w (LieB.make hk)
 have hr0 : RowT ((w.alloc (.cells (cN a (.slice A f.len c)) 27)).alloc (.cells #[.string ⟨#[]⟩, .string ⟨#[]⟩, .int .i64 0, .int .u64 0, .string ⟨#[]⟩, .slice none 0 0] 27)).heap.size ((w.alloc (.cells (cN a (.slice A f.len c)) 27)).alloc (.cells #[.string ⟨#[]⟩, .string ⟨#[]⟩, .int .i64 0, .int .u64 0, .string ⟨#[]⟩, .slice none 0 0] 27)) (.slice A f.len c) f := hk.under h3 (Nat.le_refl _) h3.size
 have HA : Hid (Calls Try.prog 34 #[.pointer (some ⟨w.heap.size, 0, none⟩), v] ((w.alloc (.cells (cN a (.slice A f.len c)) 27)).alloc (.cells #[.string ⟨#[]⟩, .string ⟨#[]⟩, .int .i64 0, .int .u64 0, .string ⟨#[]⟩, .slice none 0 0] 27)) (AtP (a, f) l w.heap.size 0 ((w.alloc (.cells (cN a (.slice A f.len c)) 27)).alloc (.cells #[.string ⟨#[]⟩, .string ⟨#[]⟩, .int .i64 0, .int .u64 0, .string ⟨#[]⟩, .slice none 0 0] 27)))) := hHd (at_any (a, f) l w.heap.size 0 v ((w.alloc (.cells (cN a (.slice A f.len c)) 27)).alloc (.cells #[.string ⟨#[]⟩, .string ⟨#[]⟩, .int .i64 0, .int .u64 0, .string ⟨#[]⟩, .slice none 0 0] 27)) (node_box h1 hr0) (hv.under h3 (Nat.le_refl _) h3.size) hf hll)
 have HZ0 := hHd h2
 have HB0 := hHd h3
 have HF := hHd hf
 obtain ⟨B, m, rfl⟩ := hv.shape
 clear h1 h2 h3 h4 hr0 hk hv hf hll
 go_enter Try.func25, Try.ntmps25
 go_wp2_with fail
 refine HA.out.mono ?_
 rintro r w1 ⟨hb1, hcase⟩
 have HZ1 := hHd (HZ0.out.below hb1 HZ0.out.lt)
 have HB1 := hHd (HB0.out.trans (hb1.mono HB0.out.size))
 rcases hcase with ⟨hn, rfl⟩ | ⟨⟨ya, yf⟩, g', o', hy, rfl, hnd, -⟩
 ·have HE : Hid (GetX (a, f) l = (noN, false)) := hHd (by unfold GetX; rw [hn])
  clear hn hb1
  have fz0 : (w1).frozen? ⟨w.heap.size + 1, 0, none⟩ = false := HZ1.out.frozen 0
  have fq0 := (HZ1.out.cell 0).trans rfl
  have fz1 : (w1).frozen? ⟨w.heap.size + 1, 1, none⟩ = false := HZ1.out.frozen 1
  have fq1 := (HZ1.out.cell 1).trans rfl
  have fz2 : (w1).frozen? ⟨w.heap.size + 1, 2, none⟩ = false := HZ1.out.frozen 2
  have fq2 := (HZ1.out.cell 2).trans rfl
  have fz3 : (w1).frozen? ⟨w.heap.size + 1, 3, none⟩ = false := HZ1.out.frozen 3
  have fq3 := (HZ1.out.cell 3).trans rfl
  have fz4 : (w1).frozen? ⟨w.heap.size + 1, 4, none⟩ = false := HZ1.out.frozen 4
  have fq4 := (HZ1.out.cell 4).trans rfl
  have fz5 : (w1).frozen? ⟨w.heap.size + 1, 5, none⟩ = false := HZ1.out.frozen 5
  have fq5 := (HZ1.out.cell 5).trans rfl
  have RZ : Hid (Blk (set6 w1 (w.heap.size + 1) (.string ⟨#[]⟩) (.string ⟨#[]⟩) (.int .i64 0) (.int .u64 0) (.string ⟨#[]⟩) (.slice none 0 0)) (w.heap.size + 1) 27 #[.string ⟨#[]⟩, .string ⟨#[]⟩, .int .i64 0, .int .u64 0, .string ⟨#[]⟩, .slice none 0 0]) := hHd (HZ1.out.set6 _ _ _ _ _ _)
  have HQ : Hid (TreP (GetX (a, f) l).1 (.bool (GetX (a, f) l).2) w (.returned (.tuple #[.agg #[.string ⟨#[]⟩, .string ⟨#[]⟩, .int .i64 0, .int .u64 0, .string ⟨#[]⟩, .slice none 0 0], .bool false])) (set6 w1 (w.heap.size + 1) (.string ⟨#[]⟩) (.string ⟨#[]⟩) (.int .i64 0) (.int .u64 0) (.string ⟨#[]⟩) (.slice none 0 0))) := hHd
   (by rw [HE.out]; exact ⟨_, rfl, OwnU.new (a := zeroT) (k := .nil) ⟨[], [], rfl, OwnK.nil _ _ _ _, rfl, rfl⟩, HB1.out.trans (set6_below (by omega))⟩)
  go_wp2
  refine bodyPost_ret (res_ct9 rfl _ _ (w.heap.size + 1) 27 _ (0, 0) _ rfl RZ.out Try.underlying27 rfl (by kernel_rfl)) rfl ?_
  exact HQ.out
 ·have HE : Hid (GetX (a, f) l = ((ya, yf), true)) := hHd (by unfold GetX; rw [hy])
  have hys : yf.size ≤ 1000000 := by have := get_size l (a, f) (ya, yf) hy; have h8 := HF.out; unfold sizeX at this; simp only at this; omega
  obtain ⟨hgl, A1, c1, hcl, hr1⟩ := hnd.below hb1
  have HC1 : Hid (Calls Try.prog 35 #[.agg (cN ya (.slice A1 yf.len c1))] w1 (CopP ya yf w1)) := hHd (copy_any yf ya A1 c1 w1 hr1 hys)
  have s0 : w1.cell? ⟨g', o', none⟩ = _ := hcl 0 _ rfl
  have s1 : w1.cell? ⟨g', o' + 1, none⟩ = _ := hcl 1 _ rfl
  have s2 : w1.cell? ⟨g', o' + 2, none⟩ = _ := hcl 2 _ rfl
  have s3 : w1.cell? ⟨g', o' + 3, none⟩ = _ := hcl 3 _ rfl
  have s4 : w1.cell? ⟨g', o' + 4, none⟩ = _ := hcl 4 _ rfl
  have s5 : w1.cell? ⟨g', o' + 5, none⟩ = _ := hcl 5 _ rfl
  clear hy hnd hb1 hys hgl hcl hr1
  go_wp2_with fail
  refine HC1.out.mono ?_
  rintro r w2 ⟨v2, F, rfl, hU, hnd, hb2⟩
  have HZ2 := hHd (HZ1.out.below hb2 HZ1.out.lt)
  have HB2 := hHd (HB1.out.trans (hb2.mono HB1.out.size))
  obtain ⟨A2, c2, rfl⟩ := hU.shape
  have RZ : Hid (Blk (set6 w2 (w.heap.size + 1) (.string (txt ya.name)) (.string (txt ya.key)) (.int .i64 ya.kind) (.int .u64 (ya.num : Int)) (.string (txt ya.text)) (.slice A2 yf.len c2)) (w.heap.size + 1) 27 (cN ya (.slice A2 yf.len c2))) := hHd (HZ2.out.set6 _ _ _ _ _ _)
  have HQ : Hid (TreP (GetX (a, f) l).1 (.bool (GetX (a, f) l).2) w (.returned (.tuple #[.agg (cN ya (.slice A2 yf.len c2)), .bool true])) (set6 w2 (w.heap.size + 1) (.string (txt ya.name)) (.string (txt ya.key)) (.int .i64 ya.kind) (.int .u64 (ya.num : Int)) (.string (txt ya.text)) (.slice A2 yf.len c2))) := hHd
   (by rw [HE.out]; exact ⟨_, rfl, OwnU.new (a := ya) (hU.keep (base' := w.heap.size) (fun g hg => set6_other (by have := (hU.fresh g hg).1; have := HZ1.out.lt; omega)) HB1.out.size), HB2.out.trans (set6_below (by omega))⟩)
  have fz0 : (w2).frozen? ⟨w.heap.size + 1, 0, none⟩ = false := HZ2.out.frozen 0
  have fq0 := (HZ2.out.cell 0).trans rfl
  have fz1 : (w2).frozen? ⟨w.heap.size + 1, 1, none⟩ = false := HZ2.out.frozen 1
  have fq1 := (HZ2.out.cell 1).trans rfl
  have fz2 : (w2).frozen? ⟨w.heap.size + 1, 2, none⟩ = false := HZ2.out.frozen 2
  have fq2 := (HZ2.out.cell 2).trans rfl
  have fz3 : (w2).frozen? ⟨w.heap.size + 1, 3, none⟩ = false := HZ2.out.frozen 3
  have fq3 := (HZ2.out.cell 3).trans rfl
  have fz4 : (w2).frozen? ⟨w.heap.size + 1, 4, none⟩ = false := HZ2.out.frozen 4
  have fq4 := (HZ2.out.cell 4).trans rfl
  have fz5 : (w2).frozen? ⟨w.heap.size + 1, 5, none⟩ = false := HZ2.out.frozen 5
  have fq5 := (HZ2.out.cell 5).trans rfl
  clear hU hnd hb2 s0 s1 s2 s3 s4 s5
  go_wp2
  refine bodyPost_ret (res_ct9 rfl _ _ (w.heap.size + 1) 27 _ (0, 0) _ rfl RZ.out Try.underlying27 rfl (by kernel_rfl)) rfl ?_
  exact HQ.out
theorem getT (W0 : World) : GetTC W0 := by
 intro x l cs v w hx hv hf hl _
 obtain ⟨A, c, rfl, hk⟩ := hx.shape
 exact get_any x.1 x.2 A c l v w hk hv hf hl
end Go.Proofs.Ythmobcaidhgeaaa
