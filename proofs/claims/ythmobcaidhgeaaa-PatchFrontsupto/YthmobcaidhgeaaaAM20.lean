/- TrvI -/
import Derived.Test.YthmobcaidhgeaaaAM19
set_option linter.unusedSimpArgs false
set_option linter.unusedVariables false
set_option maxRecDepth 100000
set_option maxHeartbeats 8000000
namespace Go.Proofs.Ythmobcaidhgeaaa
open Go.RowKit
theorem put1_any (a y : NdD) (v vx : Value) (g : Nat) (w : World) (hv : v.oneCell' = true) (hx : vx.oneCell' = true) (hg : Blk w g 27 (cN y vx)) :
  Calls Try.prog 53 #[.agg (cN a v), .pointer (some ⟨g, 0, none⟩)] w (Ans9 (.bool (lessX y a)) w) := by
 have h1 : Blk (w.alloc (.cells (cN a v) 27)) w.heap.size 27 (cN a v) := Blk.new _ _ _
 have h2 : Blk (w.alloc (.cells (cN a v) 27)) g 27 (cN y vx) := hg.alloc _
 have HB : Hid (Below w.heap.size w (w.alloc (.cells (cN a v) 27))) := hHd bAl
 have HC : Hid (Calls Try.prog 54 #[.agg (cN y vx), .agg (cN a v)] (w.alloc (.cells (cN a v) 27)) (Ans9 (.bool (lessX y a)) (w.alloc (.cells (cN a v) 27)))) := hHd (less_any y a vx v (w.alloc (.cells (cN a v) 27)) hx hv)
 obtain ⟨q0, q1, q2, q3, q4, q5⟩ := cl6 h1
 obtain ⟨p0, p1, p2, p3, p4, p5⟩ := cl6 h2
 clear h1 h2 hg
 go_enter Try.func53, Try.ntmps53
 go_wp2_with fail
 refine HC.out.mono ?_
 rintro r w2 ⟨rfl, hb⟩
 have HB2 := hHd (HB.out.trans (hb.mono HB.out.size))
 clear hb q0 q1 q2 q3 q4 q5 p0 p1 p2 p3 p4 p5
 go_wp2
 go_ret
 exact ⟨rfl, HB2.out⟩
def PutR (base g o : Nat) (x : Nd) (Fy Fx : List Nat) (w : World) (r : Ending) (w' : World) : Prop := r = .returned (.tuple #[]) ∧ ChgN base g o x Fy Fx w w'
theorem ix_le {p : NdD → Bool} : ∀ {f : NdF} {i : Nat}, ixP p f = some i → i ≤ f.len := by
 intro f
 induction f with
 | nil => intro i h; cases h
 | cons a k r _ ih =>
  intro i h
  simp only [ixP] at h
  split at h
  ·injection h with h; omega
  ·cases hr : ixP p r with
   | none => rw [hr] at h; cases h
   | some j =>
    rw [hr] at h
    simp only [Option.map_some, Option.some.injEq] at h
    have := ih hr
    simp only [Fr.len]
    omega
theorem put_any (base g o : Nat) (pa y : NdD) (pf yf : NdF) (F0 Fx : List Nat) (zs : List Value) (v : Value) (Ax : Option Addr) (cx : Nat) (w : World)
  (hcl : ∀ j u, (ndC pa v)[j]? = some u → w.cell? ⟨g, o + j, none⟩ = some u) (hK : OwnK 27 6 w base v pf.len zs) (hT : OwnT w base pf zs F0)
  (hnd : (v.ownBlock.toList ++ F0).Nodup) (hg : g ∉ v.ownBlock.toList ++ F0) (hgf : Fresh9 base w g) (hUx : OwnU w base (.slice Ax yf.len cx) yf Fx) (hndx : Fx.Nodup) (hdis : ∀ h, h ∈ Fx → h ∉ v.ownBlock.toList ++ F0 ∧ h ≠ g) (hl : pf.len ≤ 1000000) (hbs : base ≤ w.heap.size) :
  Calls Try.prog 48 #[.pointer (some ⟨g, o, none⟩), .agg (cN y (.slice Ax yf.len cx))] w (PutR base g o (pa, putF pf (y, yf)) (v.ownBlock.toList ++ F0) Fx w) := by
 have hU : OwnU w base v pf (v.ownBlock.toList ++ F0) := ⟨zs, F0, rfl, hK, hT⟩
 have hrow : RowT w.heap.size w v pf := LieB.row (hU.lies (a := pa))
 have h1 : (Value.slice Ax yf.len cx).oneCell' = true := rfl
 have hone : ∀ u ∈ zs, u.oneCell' = true := (hT.row (S := fun g => g ∈ F0) (fun _ h => h)).oneCell one_na
 have hBX : Below w.heap.size w (w.alloc (.cells (cN y (.slice Ax yf.len cx)) 27)).drew := bAl.drew
 have HS0 : Hid ((w.alloc (.cells (cN y (.slice Ax yf.len cx)) 27)).drew.cell? ⟨g, o + 5, none⟩ = some v ∧ Blk (w.alloc (.cells (cN y (.slice Ax yf.len cx)) 27)).drew w.heap.size 27 (cN y (.slice Ax yf.len cx))) := hHd ⟨(hBX.cell (p := ⟨g, o + 5, none⟩) hgf.lt).trans (hcl 5 v rfl), Blk.new w 27 (cN y (.slice Ax yf.len cx))⟩
 obtain ⟨A, c, rfl⟩ := hU.shape
 have HF : Hid (∀ W, Below w.heap.size w W → Calls Try.prog 44 #[.slice A pf.len c, .agg #[.string (txt y.name), .string (txt y.key)]] W (Ans9 (.int .i64 (findIx (stp y) pf)) W)) := hHd (fun W hW => find_any (stp y) pf A c W (hrow.under hW (Nat.le_refl _) hW.size) hl)
 have HI : Hid (∀ W, Below w.heap.size w W → Blk W w.heap.size 27 (cN y (.slice Ax yf.len cx)) → Calls Try.prog 51 #[.slice A pf.len c, .func (.func 53) #[] #[.pointer (some ⟨w.heap.size, 0, none⟩)]] W (Ans9 (.int .i64 (ixI (fun a => lessX y a) pf)) W)) := hHd (fun W hW hbx =>
  indexf_any (fun a => lessX y a) 53 #[.pointer (some ⟨w.heap.size, 0, none⟩)] pf A c W (hrow.under hW (Nat.le_refl _) hW.size) hl
   (fun a u W2 hu hW2 => put1_any a y u (.slice Ax yf.len cx) w.heap.size W2 hu h1 (hbx.below hW2 hbx.lt)) (fun _ _ => Go.Proofs.enters_of Try.func53 (by kernel_rfl) rfl _ _))
 have HP1 : Hid (∀ (b i : Nat) (z : Nd) (wq : World), A = some ⟨b, 0, none⟩ → pf.get? i = some z → Below w.heap.size w wq → ChgN base g o (pa, updF i (y, yf) pf) ((Value.slice A pf.len c).ownBlock.toList ++ F0) Fx w (set6o wq b (i * 6) (.string (txt y.name)) (.string (txt y.key)) (.int .i64 y.kind) (.int .u64 (y.num : Int)) (.string (txt y.text)) (.slice Ax yf.len cx))) := hHd (fun b i z wq e hi hB => by
  subst e
  exact put_upd hcl hK hT hnd hg hgf hUx hndx hdis hi hB hbs)
 have HP2 : Hid (∀ (wI w3 : World) (i : Nat) (v' : Value), i ≤ pf.len → Below w.heap.size w wI → OwnK 27 6 w3 base v' (pf.len + 1) (zs.take (i * 6) ++ ndC y (.slice Ax yf.len cx) ++ zs.drop (i * 6)) → wI.grownBy w3 (Value.slice A pf.len c).ownBlock → (v'.ownBlock = (Value.slice A pf.len c).ownBlock ∨ ∃ h, v'.ownBlock = some h ∧ wI.heap.size ≤ h) →
  ChgN base g o (pa, withF pf i 0 (oneF (y, yf))) ((Value.slice A pf.len c).ownBlock.toList ++ F0) Fx w (w3.setCell ⟨g, o + 5, none⟩ v')) := hHd (fun wI w3 i v' hi hB h2 h3 h4 => put_ins (y := (y, yf)) hcl hK hT hnd hg hgf hUx hndx hdis hi hB hbs h2 h3 h4)
 have HIN : Hid (∀ (W : World) (i gx : Nat), Below w.heap.size w W → w.heap.size ≤ gx → Blk W gx 27 (cN y (.slice Ax yf.len cx)) → i ≤ pf.len → Calls Try.prog 55 #[.slice A pf.len c, .int .i64 (i : Int), .slice (some ⟨gx, 0, none⟩) 1 1] W (InsP9 base (.slice A pf.len c) pf.len (zs.take (i * 6) ++ ndC y (.slice Ax yf.len cx) ++ zs.drop (i * 6)) W)) := hHd (fun W i gx hW hgx hbx hi =>
  ins_any (.slice A pf.len c) pf.len i gx base zs (ndC y (.slice Ax yf.len cx)) W (hK.below hW) hone hbx rfl (by
   intro u hu
   simp only [List.mem_cons, List.not_mem_nil, or_false] at hu
   rcases hu with rfl | rfl | rfl | rfl | rfl | rfl <;> first | rfl | exact h1) hl (Nat.le_trans hbs hW.size) (fun e => by have := (hK.lt gx e).2; omega) hi)
 have HGC : Hid (∀ W, Below w.heap.size w W → W.cell? ⟨g, o + 5, none⟩ = some (.slice A pf.len c)) := hHd (fun W hW => (hW.cell (p := ⟨g, o + 5, none⟩) hgf.lt).trans (hcl 5 _ rfl))
 have HGF : Hid (g < w.heap.size ∧ (∀ k, w.frozen? ⟨g, k, none⟩ = false) ∧ (Value.slice A pf.len c).ownBlock ≠ some g ∧ ∀ h, (Value.slice A pf.len c).ownBlock = some h → h < w.heap.size) := hHd ⟨hgf.lt, fun k => by obtain ⟨-, cs, t, h⟩ := hgf; simp [World.frozen?, h], fun e => hg (by rw [e]; simp), fun h e => (hK.lt h e).2⟩
 have HRB : Hid (∀ i, pf.get? i ≠ none → ∃ b, A = some ⟨b, 0, none⟩ ∧ b < w.heap.size ∧ b ≠ g ∧ ∀ W, Below w.heap.size w W → (∀ k, W.frozen? ⟨b, k, none⟩ = false) ∧ ∀ k, k < 6 → ∃ u, W.cell? ⟨b, i * 6 + k, none⟩ = some u) := hHd (fun i hi => by
  cases hgt : pf.get? i with
  | none => exact absurd hgt hi
  | some z =>
   obtain ⟨b, c2, e⟩ := hU.slice_is hgt
   injection e with e1 e2 e3
   subst e1 e3
   obtain ⟨cur, hbk, hnc, hcm, hcs, htk, hbb⟩ := row_is hK
   refine ⟨b, rfl, hbk.lt, fun e => hg (by rw [e]; simp [Value.ownBlock]), fun W hW => ⟨fun k => (hbk.below hW hbk.lt).frozen k, fun k hk => ?_⟩⟩
   have := Fr.get_lt hgt
   exact ⟨cur[i * 6 + k]'(by omega), by rw [(hbk.below hW hbk.lt).cell]; exact Array.getElem?_eq_getElem (by omega)⟩)
 have HL := hHd hl
 have HBX := hHd hBX
 have hbone : (Value.slice Ax yf.len cx).oneCell' = true := h1
 obtain ⟨z, hz⟩ : ∃ z, z = findIx (stp y) pf := ⟨_, rfl⟩
 rw [← hz] at HF
 have HZ := hHd hz
 obtain ⟨zp, hzp⟩ : ∃ z, z = ixI (fun a => lessX y a) pf := ⟨_, rfl⟩
 rw [← hzp] at HI
 have HZP := hHd hzp
 obtain ⟨R, hR⟩ : ∃ R, R = putF pf (y, yf) := ⟨_, rfl⟩
 rw [← hR]
 have HR := hHd hR
 have i3 : (pf.len : Int) ≤ 1000000 := by omega
 clear hcl hK hT hnd hg hgf hUx hndx hdis hl hbs hU hrow h1 hone hBX hz hzp hR
 go_enter Try.func48, Try.ntmps48
 go_wp2_with fail
 refine wp_region_noPanic ?_
 refine wp_region_held_drew (S := fun _ => True) (by kernel_rfl) trivial (fun hS => ?_)
 refine held_more (S' := fun w' => w'.cell? ⟨g, o + 5, none⟩ = some (.slice A pf.len c) ∧ Blk w' w.heap.size 27 (cN y (.slice Ax yf.len cx))) (fun _ _ => trivial) _ _ _ _ ?_
 replace hS := HS0.out
 refine tkH 0 hS ?_
 refine tkH 1 hS ?_
 refine tkH 2 hS ?_
 refine tkH 3 hS ?_ (hy := fun w hSw => by have q5 := hSw.1; (go_simp <;> with_reducible rfl))
 refine tkH 4 hS ?_ (hy := fun w hSw => by obtain ⟨q0, q1, q2, q3, q4, q5⟩ := cl6 hSw.2; (go_simp <;> with_reducible rfl))
 refine rdy1 5 fun K hK => ?_
 go_simp
 refine (stepof_any y (.slice Ax yf.len cx) _).mono ?_
 rintro r w5 ⟨rfl, hb5⟩
 have HB5 := hHd (HBX.out.trans (hb5.mono HBX.out.size))
 have HS5 := hHd (And.intro (HGC.out _ HB5.out) (HS0.out.2.below hb5 HS0.out.2.lt))
 clear hb5
 go_wp2_with fail
 refine hK.out _ _ ?sr_0 (fun hS => ?_)
 case sr_0 => (exact HS5.out)
 clear hK K
 (try simp only [Act.put, layS])
 refine rdy1 6 fun K hK => ?_
 go_simp
 refine (HF.out _ HB5.out).mono ?_
 rintro r w6 ⟨rfl, hb6⟩
 have HB6 := hHd (HB5.out.trans (hb6.mono HB5.out.size))
 have HS6 := hHd (And.intro (HGC.out _ HB6.out) (HS5.out.2.below hb6 HS5.out.2.lt))
 clear hb6
 go_wp2_with fail
 refine hK.out _ _ ?sr_1 (fun hS => ?_)
 case sr_1 => (exact HS6.out)
 clear hK K
 (try simp only [Act.put, layS])
 refine tkH 7 hS ?_
 refine wpAnyH_done (by kernel_rfl) ?_ _
 refine NoPanic.normal ?_
 clear hS
 cases hfi : findN (stp y) pf with
 | some i =>
  obtain ⟨⟨ka, kf⟩, hgt, -, -⟩ := find_stp hfi
  have hz2 : z = (i : Int) := by rw [HZ.out]; unfold findIx; rw [hfi]
  obtain ⟨b, rfl, hbl, hbg, hrb⟩ := HRB.out i (by rw [hgt]; simp)
  have hi := Fr.get_lt hgt
  obtain ⟨hfz, hfc⟩ := hrb w6.drew HB6.out.drew
  have HFZ := hHd (And.intro hfz hfc)
  have HEND := hHd (HP1.out b i (ka, kf) w6.drew rfl hgt HB6.out.drew)
  have HRR : Hid (R = updF i (y, yf) pf) := hHd (by rw [HR.out]; unfold putF; rw [hfi])
  have HSD : Hid (w6.drew.cell? ⟨g, o + 5, none⟩ = some (.slice (some ⟨b, 0, none⟩) pf.len c) ∧ Blk w6.drew w.heap.size 27 (cN y (.slice Ax yf.len cx))) := hHd ⟨HS6.out.1, HS6.out.2.below (Below.refl _ _).drew HS6.out.2.lt⟩
  have j1 : (0 : Int) ≤ (i : Int) := by omega
  have j2 : (i : Int) < (pf.len : Int) := by omega
  have j3 : decide ((i : Int) ≥ 0) = true := decide_eq_true (by omega)
  have HBL := hHd (And.intro hbl hbg)
  have HGL : Hid (g < w.heap.size) := hHd HGF.out.1
  subst hz2
  clear hfi hgt hbl hbg hrb hi hfz hfc
  go_wp2_with fail
  refine wp_region_noPanic ?_
  refine wp_region_held_drew (S := fun _ => True) (by kernel_rfl) trivial (fun hS => ?_)
  refine held_more (S' := fun w' => w'.cell? ⟨g, o + 5, none⟩ = some (.slice (some ⟨b, 0, none⟩) pf.len c) ∧ Blk w' w.heap.size 27 (cN y (.slice Ax yf.len cx))) (fun _ _ => trivial) _ _ _ _ ?_
  generalize w6.drew = wq at HSD HFZ HEND ⊢
  replace hS := HSD.out
  refine tkH 0 hS ?_
  refine tkH 1 hS ?_
  refine tkH 2 hS ?_
  refine tkH 3 hS ?_ (hy := fun w hSw => by have q5 := hSw.1; (go_simp <;> with_reducible rfl))
  refine tkH 4 hS ?_
  refine tkH 5 hS ?_ (hy := fun w hSw => by obtain ⟨q0, q1, q2, q3, q4, q5⟩ := cl6 hSw.2; (go_simp <;> with_reducible rfl))
  refine tkH 6 hS ?_
  refine rdy1 7 fun K hK => ?_
  have fz0 : (wq).frozen? ⟨b, i * 6, none⟩ = false := HFZ.out.1 _
  obtain ⟨e0, fq0⟩ := HFZ.out.2 0 (by omega)
  have fz1 : (wq).frozen? ⟨b, i * 6 + 1, none⟩ = false := HFZ.out.1 _
  obtain ⟨e1, fq1⟩ := HFZ.out.2 1 (by omega)
  have fz2 : (wq).frozen? ⟨b, i * 6 + 2, none⟩ = false := HFZ.out.1 _
  obtain ⟨e2, fq2⟩ := HFZ.out.2 2 (by omega)
  have fz3 : (wq).frozen? ⟨b, i * 6 + 3, none⟩ = false := HFZ.out.1 _
  obtain ⟨e3, fq3⟩ := HFZ.out.2 3 (by omega)
  have fz4 : (wq).frozen? ⟨b, i * 6 + 4, none⟩ = false := HFZ.out.1 _
  obtain ⟨e4, fq4⟩ := HFZ.out.2 4 (by omega)
  have fz5 : (wq).frozen? ⟨b, i * 6 + 5, none⟩ = false := HFZ.out.1 _
  obtain ⟨e5, fq5⟩ := HFZ.out.2 5 (by omega)
  simp only [Nat.add_zero] at fq0
  go_simp
  refine hK.out _ _ ?sr_2 (fun hS => ?_)
  case sr_2 => (exact ⟨(World.cell?_of_block (w := wq) (a := ⟨g, o + 5, none⟩) (set6o_other (w := wq) (b := b) (fun e => HBL.out.2 e.symm))).trans HSD.out.1, (set6o_other (w := wq) (b := b) (by have := HBL.out.1; omega)).trans HSD.out.2⟩)
  clear hK K
  (try simp only [Act.put, layS])
  refine wpAnyH_done (by kernel_rfl) ?_ _
  refine NoPanic.normal ?_
  clear hS
  go_wp2
  go_end0
  exact ⟨rfl, by rw [HRR.out]; exact HEND.out⟩
 | none =>
  have hz2 : z = -1 := by rw [HZ.out]; unfold findIx; rw [hfi]
  have HRR : Hid (∀ i, (ixP (fun a => lessX y a) pf = some i ∨ (ixP (fun a => lessX y a) pf = none ∧ i = pf.len)) → R = withF pf i 0 (oneF (y, yf))) := hHd (fun i hi => by
   rw [HR.out]
   unfold putF
   rw [hfi]
   simp only
   rcases hi with h | ⟨h, rfl⟩ <;> rw [h])
  have q5 : w6.cell? ⟨g, o + 5, none⟩ = some (.slice A pf.len c) := HS6.out.1
  have HIX := hHd (HI.out w6 HB6.out HS6.out.2)
  subst hz2
  clear hfi
  go_wp2_with fail
  refine HIX.out.mono ?_
  rintro r w7 ⟨rfl, hb7⟩
  have HB7 := hHd (HB6.out.trans (hb7.mono HB6.out.size))
  have HS7 := hHd (And.intro (HGC.out _ HB7.out) (HS6.out.2.below hb7 HS6.out.2.lt))
  clear hb7 q5
  cases hix : ixP (fun a => lessX y a) pf with
  | some i =>
   have hz3 : zp = (i : Int) := by rw [HZP.out]; unfold ixI; rw [hix]
   have hil : i ≤ pf.len := ix_le hix
   have HRW : Hid (R = withF pf i 0 (oneF (y, yf))) := hHd (HRR.out i (.inl hix))
   have j1 : (0 : Int) ≤ (i : Int) := by omega
   have j2 : decide ((i : Int) < 0) = false := decide_eq_false (by omega)
   have j4 : ¬ (i : Int) < 0 := by omega
   subst hz3
   clear hix
   go_wp2_with fail
   have HSI : Hid (Blk w7.drew w.heap.size 27 (cN y (.slice Ax yf.len cx))) := hHd (HS7.out.2.below (Below.refl _ _).drew HS7.out.2.lt)
   have HBI : Hid (Below w.heap.size w (w7.alloc (.cells (cN y (.slice Ax yf.len cx)) 27)).drew) := hHd ((HB7.out.alloc HB7.out.size _).drew)
   have HNI : Hid (Blk (w7.alloc (.cells (cN y (.slice Ax yf.len cx)) 27)).drew w7.heap.size 27 (cN y (.slice Ax yf.len cx))) := hHd (Blk.new w7 27 (cN y (.slice Ax yf.len cx)))
   have HCI : Hid (Calls Try.prog 55 #[.slice A pf.len c, .int .i64 (i : Int), .slice (some ⟨w7.heap.size, 0, none⟩) 1 1] (w7.alloc (.cells (cN y (.slice Ax yf.len cx)) 27)).drew (InsP9 base (.slice A pf.len c) pf.len (zs.take (i * 6) ++ ndC y (.slice Ax yf.len cx) ++ zs.drop (i * 6)) (w7.alloc (.cells (cN y (.slice Ax yf.len cx)) 27)).drew)) := hHd (HIN.out (w7.alloc (.cells (cN y (.slice Ax yf.len cx)) 27)).drew i w7.heap.size HBI.out HB7.out.size HNI.out hil)
   refine wp_region_noPanic ?_
   refine wp_region_held_drew (S := fun _ => True) (by kernel_rfl) trivial (fun hS => ?_)
   refine held_more (S' := fun w' => Blk w' w.heap.size 27 (cN y (.slice Ax yf.len cx))) (fun _ _ => trivial) _ _ _ _ ?_
   replace hS := HSI.out
   refine tkH 0 hS ?_
   refine tkH 1 hS ?_
   refine tkH 2 hS ?_
   refine tkH 3 hS ?_
   refine tkH 5 hS ?_
   refine tkH 6 hS ?_ (hy := fun w hSw => by obtain ⟨q0, q1, q2, q3, q4, q5⟩ := cl6 hSw; (go_simp <;> with_reducible rfl))
   refine rdy [4, 7] (rdC (fun K hK => ?str_3) (rdC (fun K hK => ?str_4) .nil))
   case' str_3 =>
    have q5 : w7.cell? ⟨g, o + 5, none⟩ = some (.slice A pf.len c) := HGC.out _ HB7.out
    have q6 : (w7.alloc (.cells (cN y (.slice Ax yf.len cx)) 27)).cell? ⟨g, o + 5, none⟩ = some (.slice A pf.len c) := (HGC.out _ HBI.out : ((w7.alloc (.cells (cN y (.slice Ax yf.len cx)) 27)).drew).cell? ⟨g, o + 5, none⟩ = _)
    go_simp
    refine hK.out _ _ ?sr_3 (fun hS => ?_)
    case sr_3 => (exact hS)
    clear hK K
    (try simp only [Act.put, layS])
    refine rdy1 7 fun K hK => ?_
    go_simp
    refine hK.out _ _ ?sr_5 (fun hS => ?_)
    case sr_5 => (exact HSI.out.alloc _)
    clear hK K
    (try simp only [Act.put, layS])
    refine rdy1 8 fun K hK => ?_
    go_simp
    refine HCI.out.mono ?_
    rintro r w8 ⟨v', rfl, k1, k2, k3⟩
    obtain ⟨A8, c8, rfl⟩ := k1.shape
    have HG8 : Hid (w8.heap[g]? = w.heap[g]?) := hHd ((k2.block g (Nat.lt_of_lt_of_le HGF.out.1 HBI.out.size) (fun e => HGF.out.2.2.1 e.symm)).trans (HBI.out.block g HGF.out.1))
    have HS8 : Hid (Blk w8 w.heap.size 27 (cN y (.slice Ax yf.len cx))) := hHd ((k2.block w.heap.size (HSI.out.alloc _).lt (fun e => by have := HGF.out.2.2.2 _ e.symm; omega)).trans (HSI.out.alloc (.cells (cN y (.slice Ax yf.len cx)) 27)))
    have HEND := hHd (HP2.out (w7.alloc (.cells (cN y (.slice Ax yf.len cx)) 27)).drew w8 i _ hil HBI.out k1 k2 k3)
    clear k1 k2 k3
    go_wp2_with fail
    refine hK.out _ _ ?sr_6 (fun hS => ?_)
    case sr_6 => (exact HS8.out)
    clear hK K
    (try simp only [Act.put, layS])
    refine tkH 9 hS ?_
    refine tkH 10 hS ?_
    refine rdy1 11 fun K hK => ?_
    have fz5 : w8.frozen? ⟨g, o + 5, none⟩ = false := (World.frozen?_of_block (w := w) (a := ⟨g, o + 5, none⟩) HG8.out).trans (HGF.out.2.1 _)
    have fq5 : w8.cell? ⟨g, o + 5, none⟩ = some (.slice A pf.len c) := (World.cell?_of_block (w := w) (a := ⟨g, o + 5, none⟩) HG8.out).trans (HGC.out w (Below.refl _ _))
    go_simp
    refine hK.out _ _ ?sr_7 (fun hS => ?_)
    case sr_7 => (exact HS8.out.far (p := ⟨g, o + 5, none⟩) (by have := HGF.out.1; show w.heap.size ≠ g; omega) _)
    clear hK K
    (try simp only [Act.put, layS])
    refine wpAnyH_done (by kernel_rfl) ?_ _
    refine NoPanic.normal ?_
   case' str_4 =>
    go_simp
    refine hK.out _ _ ?sr_4 (fun hS => ?_)
    case sr_4 => (exact HSI.out.alloc _)
    clear hK K
    (try simp only [Act.put, layS])
    refine rdy1 4 fun K hK => ?_
    have q5 : w7.cell? ⟨g, o + 5, none⟩ = some (.slice A pf.len c) := HGC.out _ HB7.out
    have q6 : (w7.alloc (.cells (cN y (.slice Ax yf.len cx)) 27)).cell? ⟨g, o + 5, none⟩ = some (.slice A pf.len c) := (HGC.out _ HBI.out : ((w7.alloc (.cells (cN y (.slice Ax yf.len cx)) 27)).drew).cell? ⟨g, o + 5, none⟩ = _)
    go_simp
    refine hK.out _ _ ?sr_8 (fun hS => ?_)
    case sr_8 => (exact hS)
    clear hK K
    (try simp only [Act.put, layS])
    refine rdy1 8 fun K hK => ?_
    go_simp
    refine HCI.out.mono ?_
    rintro r w8 ⟨v', rfl, k1, k2, k3⟩
    obtain ⟨A8, c8, rfl⟩ := k1.shape
    have HG8 : Hid (w8.heap[g]? = w.heap[g]?) := hHd ((k2.block g (Nat.lt_of_lt_of_le HGF.out.1 HBI.out.size) (fun e => HGF.out.2.2.1 e.symm)).trans (HBI.out.block g HGF.out.1))
    have HS8 : Hid (Blk w8 w.heap.size 27 (cN y (.slice Ax yf.len cx))) := hHd ((k2.block w.heap.size (HSI.out.alloc _).lt (fun e => by have := HGF.out.2.2.2 _ e.symm; omega)).trans (HSI.out.alloc (.cells (cN y (.slice Ax yf.len cx)) 27)))
    have HEND := hHd (HP2.out (w7.alloc (.cells (cN y (.slice Ax yf.len cx)) 27)).drew w8 i _ hil HBI.out k1 k2 k3)
    clear k1 k2 k3
    go_wp2_with fail
    refine hK.out _ _ ?sr_9 (fun hS => ?_)
    case sr_9 => (exact HS8.out)
    clear hK K
    (try simp only [Act.put, layS])
    refine tkH 9 hS ?_
    refine tkH 10 hS ?_
    refine rdy1 11 fun K hK => ?_
    have fz5 : w8.frozen? ⟨g, o + 5, none⟩ = false := (World.frozen?_of_block (w := w) (a := ⟨g, o + 5, none⟩) HG8.out).trans (HGF.out.2.1 _)
    have fq5 : w8.cell? ⟨g, o + 5, none⟩ = some (.slice A pf.len c) := (World.cell?_of_block (w := w) (a := ⟨g, o + 5, none⟩) HG8.out).trans (HGC.out w (Below.refl _ _))
    go_simp
    refine hK.out _ _ ?sr_a (fun hS => ?_)
    case sr_a => (exact HS8.out.far (p := ⟨g, o + 5, none⟩) (by have := HGF.out.1; show w.heap.size ≠ g; omega) _)
    clear hK K
    (try simp only [Act.put, layS])
    refine wpAnyH_done (by kernel_rfl) ?_ _
    refine NoPanic.normal ?_
   all_goals clear hS
   all_goals go_wp2
   all_goals go_end0
   all_goals exact ⟨rfl, by rw [HRW.out]; exact HEND.out⟩
  | none =>
   have hz3 : zp = -1 := by rw [HZP.out]; unfold ixI; rw [hix]
   obtain ⟨i, hi⟩ : ∃ i, i = pf.len := ⟨_, rfl⟩
   have hil : i ≤ pf.len := by omega
   have HRW : Hid (R = withF pf i 0 (oneF (y, yf))) := hHd (HRR.out i (.inr ⟨hix, hi⟩))
   have HII := hHd hi
   have q5 : w7.cell? ⟨g, o + 5, none⟩ = some (.slice A pf.len c) := HS7.out.1
   subst hz3
   clear hix hi
   go_wp2_with fail
   rw [show ((pf.len : Nat) : Int) = (i : Int) by rw [HII.out]]
   have HSI : Hid (Blk w7.drew w.heap.size 27 (cN y (.slice Ax yf.len cx))) := hHd (HS7.out.2.below (Below.refl _ _).drew HS7.out.2.lt)
   have HBI : Hid (Below w.heap.size w (w7.alloc (.cells (cN y (.slice Ax yf.len cx)) 27)).drew) := hHd ((HB7.out.alloc HB7.out.size _).drew)
   have HNI : Hid (Blk (w7.alloc (.cells (cN y (.slice Ax yf.len cx)) 27)).drew w7.heap.size 27 (cN y (.slice Ax yf.len cx))) := hHd (Blk.new w7 27 (cN y (.slice Ax yf.len cx)))
   have HCI : Hid (Calls Try.prog 55 #[.slice A pf.len c, .int .i64 (i : Int), .slice (some ⟨w7.heap.size, 0, none⟩) 1 1] (w7.alloc (.cells (cN y (.slice Ax yf.len cx)) 27)).drew (InsP9 base (.slice A pf.len c) pf.len (zs.take (i * 6) ++ ndC y (.slice Ax yf.len cx) ++ zs.drop (i * 6)) (w7.alloc (.cells (cN y (.slice Ax yf.len cx)) 27)).drew)) := hHd (HIN.out (w7.alloc (.cells (cN y (.slice Ax yf.len cx)) 27)).drew i w7.heap.size HBI.out HB7.out.size HNI.out hil)
   refine wp_region_noPanic ?_
   refine wp_region_held_drew (S := fun _ => True) (by kernel_rfl) trivial (fun hS => ?_)
   refine held_more (S' := fun w' => Blk w' w.heap.size 27 (cN y (.slice Ax yf.len cx))) (fun _ _ => trivial) _ _ _ _ ?_
   replace hS := HSI.out
   refine tkH 0 hS ?_
   refine tkH 1 hS ?_
   refine tkH 2 hS ?_
   refine tkH 3 hS ?_
   refine tkH 5 hS ?_
   refine tkH 6 hS ?_ (hy := fun w hSw => by obtain ⟨q0, q1, q2, q3, q4, q5⟩ := cl6 hSw; (go_simp <;> with_reducible rfl))
   refine rdy [4, 7] (rdC (fun K hK => ?str_b) (rdC (fun K hK => ?str_c) .nil))
   case' str_b =>
    have q5 : w7.cell? ⟨g, o + 5, none⟩ = some (.slice A pf.len c) := HGC.out _ HB7.out
    have q6 : (w7.alloc (.cells (cN y (.slice Ax yf.len cx)) 27)).cell? ⟨g, o + 5, none⟩ = some (.slice A pf.len c) := (HGC.out _ HBI.out : ((w7.alloc (.cells (cN y (.slice Ax yf.len cx)) 27)).drew).cell? ⟨g, o + 5, none⟩ = _)
    go_simp
    refine hK.out _ _ ?sr_b (fun hS => ?_)
    case sr_b => (exact hS)
    clear hK K
    (try simp only [Act.put, layS])
    refine rdy1 7 fun K hK => ?_
    go_simp
    refine hK.out _ _ ?sr_d (fun hS => ?_)
    case sr_d => (exact HSI.out.alloc _)
    clear hK K
    (try simp only [Act.put, layS])
    refine rdy1 8 fun K hK => ?_
    go_simp
    refine HCI.out.mono ?_
    rintro r w8 ⟨v', rfl, k1, k2, k3⟩
    obtain ⟨A8, c8, rfl⟩ := k1.shape
    have HG8 : Hid (w8.heap[g]? = w.heap[g]?) := hHd ((k2.block g (Nat.lt_of_lt_of_le HGF.out.1 HBI.out.size) (fun e => HGF.out.2.2.1 e.symm)).trans (HBI.out.block g HGF.out.1))
    have HS8 : Hid (Blk w8 w.heap.size 27 (cN y (.slice Ax yf.len cx))) := hHd ((k2.block w.heap.size (HSI.out.alloc _).lt (fun e => by have := HGF.out.2.2.2 _ e.symm; omega)).trans (HSI.out.alloc (.cells (cN y (.slice Ax yf.len cx)) 27)))
    have HEND := hHd (HP2.out (w7.alloc (.cells (cN y (.slice Ax yf.len cx)) 27)).drew w8 i _ hil HBI.out k1 k2 k3)
    clear k1 k2 k3
    go_wp2_with fail
    refine hK.out _ _ ?sr_e (fun hS => ?_)
    case sr_e => (exact HS8.out)
    clear hK K
    (try simp only [Act.put, layS])
    refine tkH 9 hS ?_
    refine tkH 10 hS ?_
    refine rdy1 11 fun K hK => ?_
    have fz5 : w8.frozen? ⟨g, o + 5, none⟩ = false := (World.frozen?_of_block (w := w) (a := ⟨g, o + 5, none⟩) HG8.out).trans (HGF.out.2.1 _)
    have fq5 : w8.cell? ⟨g, o + 5, none⟩ = some (.slice A pf.len c) := (World.cell?_of_block (w := w) (a := ⟨g, o + 5, none⟩) HG8.out).trans (HGC.out w (Below.refl _ _))
    go_simp
    refine hK.out _ _ ?sr_f (fun hS => ?_)
    case sr_f => (exact HS8.out.far (p := ⟨g, o + 5, none⟩) (by have := HGF.out.1; show w.heap.size ≠ g; omega) _)
    clear hK K
    (try simp only [Act.put, layS])
    refine wpAnyH_done (by kernel_rfl) ?_ _
    refine NoPanic.normal ?_
   case' str_c =>
    go_simp
    refine hK.out _ _ ?sr_c (fun hS => ?_)
    case sr_c => (exact HSI.out.alloc _)
    clear hK K
    (try simp only [Act.put, layS])
    refine rdy1 4 fun K hK => ?_
    have q5 : w7.cell? ⟨g, o + 5, none⟩ = some (.slice A pf.len c) := HGC.out _ HB7.out
    have q6 : (w7.alloc (.cells (cN y (.slice Ax yf.len cx)) 27)).cell? ⟨g, o + 5, none⟩ = some (.slice A pf.len c) := (HGC.out _ HBI.out : ((w7.alloc (.cells (cN y (.slice Ax yf.len cx)) 27)).drew).cell? ⟨g, o + 5, none⟩ = _)
    go_simp
    refine hK.out _ _ ?sr_g (fun hS => ?_)
    case sr_g => (exact hS)
    clear hK K
    (try simp only [Act.put, layS])
    refine rdy1 8 fun K hK => ?_
    go_simp
    refine HCI.out.mono ?_
    rintro r w8 ⟨v', rfl, k1, k2, k3⟩
    obtain ⟨A8, c8, rfl⟩ := k1.shape
    have HG8 : Hid (w8.heap[g]? = w.heap[g]?) := hHd ((k2.block g (Nat.lt_of_lt_of_le HGF.out.1 HBI.out.size) (fun e => HGF.out.2.2.1 e.symm)).trans (HBI.out.block g HGF.out.1))
    have HS8 : Hid (Blk w8 w.heap.size 27 (cN y (.slice Ax yf.len cx))) := hHd ((k2.block w.heap.size (HSI.out.alloc _).lt (fun e => by have := HGF.out.2.2.2 _ e.symm; omega)).trans (HSI.out.alloc (.cells (cN y (.slice Ax yf.len cx)) 27)))
    have HEND := hHd (HP2.out (w7.alloc (.cells (cN y (.slice Ax yf.len cx)) 27)).drew w8 i _ hil HBI.out k1 k2 k3)
    clear k1 k2 k3
    go_wp2_with fail
    refine hK.out _ _ ?sr_h (fun hS => ?_)
    case sr_h => (exact HS8.out)
    clear hK K
    (try simp only [Act.put, layS])
    refine tkH 9 hS ?_
    refine tkH 10 hS ?_
    refine rdy1 11 fun K hK => ?_
    have fz5 : w8.frozen? ⟨g, o + 5, none⟩ = false := (World.frozen?_of_block (w := w) (a := ⟨g, o + 5, none⟩) HG8.out).trans (HGF.out.2.1 _)
    have fq5 : w8.cell? ⟨g, o + 5, none⟩ = some (.slice A pf.len c) := (World.cell?_of_block (w := w) (a := ⟨g, o + 5, none⟩) HG8.out).trans (HGC.out w (Below.refl _ _))
    go_simp
    refine hK.out _ _ ?sr_i (fun hS => ?_)
    case sr_i => (exact HS8.out.far (p := ⟨g, o + 5, none⟩) (by have := HGF.out.1; show w.heap.size ≠ g; omega) _)
    clear hK K
    (try simp only [Act.put, layS])
    refine wpAnyH_done (by kernel_rfl) ?_ _
    refine NoPanic.normal ?_
   all_goals clear hS
   all_goals go_wp2
   all_goals go_end0
   all_goals exact ⟨rfl, by rw [HRW.out]; exact HEND.out⟩
end Go.Proofs.Ythmobcaidhgeaaa
