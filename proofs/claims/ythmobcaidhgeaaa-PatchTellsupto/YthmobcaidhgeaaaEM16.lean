/- Law17E -/
import Derived.Test.YthmobcaidhgeaaaEM13
import Derived.Test.YthmobcaidhgeaaaEM15
set_option linter.unusedSimpArgs false
set_option linter.unusedVariables false
set_option maxRecDepth 100000
set_option maxHeartbeats 8000000
namespace Go.Proofs.Ythmobcaidhgeaaa
open Go.RowKit
section
attribute [local go_sem] Oper.semAt_some
theorem RunN17.flat {a : NdD} {f : NdF} {x : Nd × Nat × Nat} {e i : Nat} {w : World} {r : Ending} {w' : World} (h : RunN17 x w r w') (hx : x = ((a, f), e, i)) : ∃ A c, r = .returned (.tuple #[.agg (ndC a (.slice A f.len c)).toArray, .int .i64 (e : Int), .int .i64 (i : Int)]) ∧ LieN w' (ndC a (.slice A f.len c)) (a, f) ∧ Below w.heap.size w w' := by
 subst hx
 obtain ⟨cs, rfl, h2, h3⟩ := h
 obtain ⟨A, c, rfl, _⟩ := LieB.shape h2
 exact ⟨A, c, rfl, h2, h3⟩
theorem patchTells_not (a : NdD) (f : NdF) (l : List EdD) (A : Option Addr) (c : Nat) (v : Value) (w : World) (hx : LieN w (ndC a (.slice A f.len c)) (a, f)) (hv : EdsV (Bel w) w v l) (hf : f.size ≤ 1000000) (hl : FewN17 l) (C : PatC w) (HA : Awake17 w) (s t : Bool) (hs : smallX a a f f = s) (ht : fewR17 l = t) (hst : (s && t) = false) : Calls Try.prog 3 #[.agg (cN a (.slice A f.len c)), v] w (Ans9 (.bool true) w) := by
 obtain ⟨B, d, rfl⟩ := hv.shape
 have hb1 : Blk (w.alloc (.cells (cN a (.slice A f.len c)) 27)) w.heap.size 27 (cN a (.slice A f.len c)) := Blk.new _ _ _
 have hbw : Below w.heap.size w (w.alloc (.cells (cN a (.slice A f.len c)) 27)) := bAl
 have hc1 : ∀ W, Below w.heap.size w W → Hid (Calls Try.prog 8 #[.agg (cN a (.slice A f.len c)), .agg (cN a (.slice A f.len c))] W (Ans9 (.bool (smallX a a f f)) W)) := fun W h => hHd (small17_any a a f f A A c c W (hx.below h) (hx.below h) (by omega) (by omega))
 have hc2 : ∀ W, Below w.heap.size w W → Hid (Calls Try.prog 9 #[.slice B l.length d] W (Ans9 (.bool (fewR17 l)) W)) := fun W h => hHd (few17_any l _ W (hv.below h) hl)
 have HX := hHd hb1
 have HB := hHd hbw
 have HAW := hHd (HA _ hbw)
 rw [hs] at hc1
 rw [ht] at hc2
 have C1 := hHd hc1
 have C2 := hHd hc2
 clear hx hv hf hl hc1 hc2 hb1 hbw HA C hs ht
 go_enter Try.func3, Try.ntmps3
 go_wp2_with fail
 refine HAW.out.mono ?_
 rintro r w1 ⟨rfl, hb⟩
 have HX1 := hHd (HX.out.below hb HX.out.lt)
 have HB1 := hHd (HB.out.trans (hb.mono HB.out.size))
 clear hb
 obtain ⟨q0, q1, q2, q3, q4, q5⟩ := cl6 HX1.out
 go_wp2_with fail
 refine (C1.out _ HB1.out).out.mono ?_
 rintro r w2 ⟨rfl, hb⟩
 have HX2 := hHd (HX1.out.below hb HX1.out.lt)
 have HB2 := hHd (HB1.out.trans (hb.mono HB1.out.size))
 clear hb
 obtain ⟨q0, q1, q2, q3, q4, q5⟩ := cl6 HX2.out
 go_wp2_with fail
 refine (C2.out _ HB2.out).out.mono ?_
 rintro r w3 ⟨rfl, hb⟩
 have HX3 := hHd (HX2.out.below hb HX2.out.lt)
 have HB3 := hHd (HB2.out.trans (hb.mono HB2.out.size))
 clear hb
 obtain ⟨q0, q1, q2, q3, q4, q5⟩ := cl6 HX3.out
 cases s with
 | false =>
  cases t with
  | false =>
   go_wp2
   go_ret
   exact ⟨rfl, HB3.out⟩
  | true =>
   go_wp2
   go_ret
   exact ⟨rfl, HB3.out⟩
 | true =>
  cases t with
  | false =>
   go_wp2
   go_ret
   exact ⟨rfl, HB3.out⟩
  | true => cases hst
theorem patchTells_yes (a : NdD) (f : NdF) (l : List EdD) (A : Option Addr) (c : Nat) (v : Value) (w : World) (hx : LieN w (ndC a (.slice A f.len c)) (a, f)) (hv : EdsV (Bel w) w v l) (hf : f.size ≤ 1000000) (hl : FewN17 l) (C : PatC w) (HA : Awake17 w) (hs : smallX a a f f = true) (ht : fewR17 l = true) : Calls Try.prog 3 #[.agg (cN a (.slice A f.len c)), v] w (Ans9 (.bool true) w) := by
 obtain ⟨B, d, rfl⟩ := hv.shape
 have hb1 : Blk (w.alloc (.cells (cN a (.slice A f.len c)) 27)) w.heap.size 27 (cN a (.slice A f.len c)) := Blk.new _ _ _
 have hbw : Below w.heap.size w (w.alloc (.cells (cN a (.slice A f.len c)) 27)) := bAl
 have hc1 : ∀ W, Below w.heap.size w W → Hid (Calls Try.prog 8 #[.agg (cN a (.slice A f.len c)), .agg (cN a (.slice A f.len c))] W (Ans9 (.bool (smallX a a f f)) W)) := fun W h => hHd (small17_any a a f f A A c c W (hx.below h) (hx.below h) (by omega) (by omega))
 have hc2 : ∀ W, Below w.heap.size w W → Hid (Calls Try.prog 9 #[.slice B l.length d] W (Ans9 (.bool (fewR17 l)) W)) := fun W h => hHd (few17_any l _ W (hv.below h) hl)
 have HX := hHd hb1
 have HB := hHd hbw
 have HAW := hHd (HA _ hbw)
 rw [hs] at hc1
 rw [ht] at hc2
 obtain ⟨⟨⟨⟨⟨s1, s2⟩, s3⟩, s4⟩, s5⟩, s6⟩ : ((((f.size + 1 ≤ 300 ∧ f.size + 1 ≤ 300) ∧ a.kind = 0) ∧ a.kind = 0) ∧ rgtX (a, f) = true) ∧ rgtX (a, f) = true := by simpa [smallX] using hs
 obtain ⟨t1, t2⟩ := fewR17_iff.1 ht
 have hfo : ∀ e ∈ l, FewO e ∧ rgtX e.node = true := fun e he => by
  obtain ⟨g1, g2, g3, g4⟩ := t1 e he
  have e1 : sizeX e.node = e.node.2.size + 1 := rfl
  have e2 : sizeX e.old = e.old.2.size + 1 := rfl
  exact ⟨⟨by omega, by omega, by omega⟩, g4⟩
 have HFO := hHd hfo
 have FW : Hid (FewR (a, f) l) := hHd ⟨by simp only; omega, by omega, fun e he => (hfo e he).1⟩
 have RG : Hid (rgtX (a, f) = true) := hHd s5
 have l0 : l.length ≤ 60 := t2
 have f0 : f.size ≤ 299 := by omega
 have HC := hHd C
 have HXL := hHd hx
 have HV := hHd hv
 have C1 := hHd hc1
 have C2 := hHd hc2
 clear hx hv hf hl hc1 hc2 hb1 hbw HA C hs ht s1 s2 s3 s4 s5 s6 t1 t2 hfo
 go_enter Try.func3, Try.ntmps3
 go_wp2_with fail
 refine HAW.out.mono ?_
 rintro r w1 ⟨rfl, hb⟩
 have HX1 := hHd (HX.out.below hb HX.out.lt)
 have HB1 := hHd (HB.out.trans (hb.mono HB.out.size))
 clear hb
 obtain ⟨q0, q1, q2, q3, q4, q5⟩ := cl6 HX1.out
 go_wp2_with fail
 refine (C1.out _ HB1.out).out.mono ?_
 rintro r w2 ⟨rfl, hb⟩
 have HX2 := hHd (HX1.out.below hb HX1.out.lt)
 have HB2 := hHd (HB1.out.trans (hb.mono HB1.out.size))
 clear hb
 obtain ⟨q0, q1, q2, q3, q4, q5⟩ := cl6 HX2.out
 go_wp2_with fail
 refine (C2.out _ HB2.out).out.mono ?_
 rintro r w3 ⟨rfl, hb⟩
 have HX3 := hHd (HX2.out.below hb HX2.out.lt)
 have HB3 := hHd (HB2.out.trans (hb.mono HB2.out.size))
 clear hb
 obtain ⟨q0, q1, q2, q3, q4, q5⟩ := cl6 HX3.out
 clear q0 q1 q2 q3 q4 q5
 go_wp2
 go_loopw [8] (fun vi wr => ∃ j : Nat, j ≤ l.length ∧ vi = .int .i64 (j : Int) ∧ Hid (Blk wr w.heap.size 27 (cN a (.slice A f.len c))) ∧ Hid (Below w.heap.size w wr)) (fun vi _ => l.length - (intOf vi).toNat)
 case atStart => exact ⟨0, Nat.zero_le _, rfl, HX3, HB3⟩
 case round =>
  clear HX HB HX1 HB1 HX2 HB2 HX3 HB3 HAW C1 C2
  obtain ⟨j, hj, rfl, HX7, HB7⟩ := hrel
  obtain ⟨w7, hw7⟩ : ∃ w7, w7 = wr := ⟨_, rfl⟩
  subst hw7
  have i1 : (0 : Int) ≤ (j : Int) := by omega
  by_cases hlt : j < l.length
  ·have i2 : (j : Int) < (l.length : Int) := by omega
   obtain ⟨x, hx⟩ : ∃ x, l[j]? = some x := ⟨_, List.getElem?_eq_getElem hlt⟩
   obtain ⟨z2, z3⟩ := HFO.out x (List.mem_of_getElem? hx)
   obtain ⟨g9, o9, Aw, cw, An, cn, Ao, co, rfl, -, -, hg9, hw9, hn9, ho9, hcl⟩ := HV.out.at hx
   obtain ⟨xk, xw, ⟨xp, xpf⟩, ⟨xo, xof⟩⟩ := x
   simp only at z2 z3 hw9 hn9 ho9 hcl
   have HEW : Hid (EdS (Bel w) w (edC xk (.slice Aw xw.length cw) xp (.slice An xpf.len cn) xo (.slice Ao xof.len co)) ⟨xk, xw, (xp, xpf), (xo, xof)⟩) := hHd ⟨_, _, _, rfl, hw9, hn9, ho9⟩
   have HG7 : Hid (g9 < w7.heap.size) := hHd (Nat.lt_of_lt_of_le hg9 HB7.out.size)
   have HCL7 : Hid (∀ i u, (edC xk (.slice Aw xw.length cw) xp (.slice An xpf.len cn) xo (.slice Ao xof.len co))[i]? = some u → w7.cell? ⟨g9, o9 + j * 14 + i, none⟩ = some u) := hHd (fun i u hu => (HB7.out.cell (p := ⟨g9, o9 + j * 14 + i, none⟩) hg9).trans (hcl i u hu))
   obtain ⟨E, hE⟩ : ∃ E, E = (oneX (a, f) ⟨xk, xw, (xp, xpf), (xo, xof)⟩).2 := ⟨_, rfl⟩
   obtain ⟨⟨ra, rf⟩, hR⟩ : ∃ R, R = (oneX (a, f) ⟨xk, xw, (xp, xpf), (xo, xof)⟩).1 := ⟨_, rfl⟩
   have hrs : rf.size ≤ 1000000 := by
    have h := one_size (a, f) ⟨xk, xw, (xp, xpf), (xo, xof)⟩
    rw [← hR] at h
    simp only at h
    have h5 := z2.2.1
    simp only at h5
    omega
   have HO1 : ∀ V, Below w.heap.size w V → ∀ W, Below V.heap.size V W → Hid (Calls Try.prog 10 #[.agg (cN a (.slice A f.len c)), .agg #[.int .i64 xk, .slice Aw xw.length cw, .string (txt xp.name), .string (txt xp.key), .int .i64 xp.kind, .int .u64 (xp.num : Int), .string (txt xp.text), .slice An xpf.len cn, .string (txt xo.name), .string (txt xo.key), .int .i64 xo.kind, .int .u64 (xo.num : Int), .string (txt xo.text), .slice Ao xof.len co]] W (PTreZ (fun g => g < V.heap.size) (ra, rf) (.int .i64 (E : Int)) W)) := fun V hV W hW => hHd (by
    have hVW := hV.trans (hW.mono hV.size)
    have h := HC.out.one V.heap.size (a, f) ⟨xk, xw, (xp, xpf), (xo, xof)⟩ (ndC a (.slice A f.len c)) _ W hW.size (HXL.out.under hVW (Nat.le_refl _) hV.size) (EdS.keep HEW.out (fun g hg => hVW.block g hg) (fun g hg => Nat.lt_of_lt_of_le hg hV.size)) (by simp only; omega) z2 RG.out z3 hVW
    rw [← hE, ← hR] at h
    exact h)
   have HO2 : ∀ V, Below w.heap.size w V → ∀ W, Below V.heap.size V W → Hid (Calls Try.prog 11 #[.agg (cN a (.slice A f.len c)), .agg #[.int .i64 xk, .slice Aw xw.length cw, .string (txt xp.name), .string (txt xp.key), .int .i64 xp.kind, .int .u64 (xp.num : Int), .string (txt xp.text), .slice An xpf.len cn, .string (txt xo.name), .string (txt xo.key), .int .i64 xo.kind, .int .u64 (xo.num : Int), .string (txt xo.text), .slice Ao xof.len co]] W (PTreZ (fun g => g < V.heap.size) (ra, rf) (.int .i64 (E : Int)) W)) := fun V hV W hW => hHd (by
    have hVW := hV.trans (hW.mono hV.size)
    obtain ⟨y1, y2, y3⟩ := z2
    simp only at y1 y2 y3
    have h := rone17_any (fun g => g < V.heap.size) (a, f) ⟨xk, xw, (xp, xpf), (xo, xof)⟩ (ndC a (.slice A f.len c)) _ W (fun g hg => Nat.lt_of_lt_of_le hg hW.size) (HXL.out.under hVW (Nat.le_refl _) hV.size) (EdS.keep HEW.out (fun g hg => hVW.block g hg) (fun g hg => Nat.lt_of_lt_of_le hg hV.size)) (by simp only; omega) (by simp only; omega) (by simp only; omega) (by simp only; omega)
    rw [← hE, ← hR] at h
    exact h)
   have HS : ∀ W cs ds, LieN W cs (ra, rf) → LieN W ds (ra, rf) → Hid (Calls Try.prog 12 #[.agg cs.toArray, .agg ds.toArray] W (Ans9 (.bool true) W)) := fun W cs ds h1 h2 => hHd (by
    have h := rsamet_any (ra, rf) (ra, rf) cs ds W h1 h2 hrs hrs
    rw [decide_eq_true rfl] at h
    exact h)
   have HD1 := hHd (HO1 w7 HB7.out)
   have HD2 := hHd HO2
   have HSS := hHd HS
   have n0 : j < l.length := hlt
   clear z2 z3 hw9 hn9 ho9 hcl hx hg9 hE hR hlt HO1 HO2 HS hrs
   go_upto_region 11 with (fail)
   go_cut [9, 10] (fun t9 t10 wx => ∃ (b8 : Nat) (A8 : Option Addr) (c8 : Nat), t9 = .pointer (some ⟨b8, 0, none⟩) ∧ t10 = .int .i64 (E : Int) ∧ Hid (ApM (fun g => g < w7.heap.size) w7 b8 ra rf A8 c8 wx))
   case first =>
    have HWW : Hid (Below w7.heap.size w7 w7.drew) := hHd (Below.refl _ _).drew
    have HMW : Hid (Blk w7.drew w.heap.size 27 (cN a (.slice A f.len c))) := hHd (HX7.out.below (Below.refl _ _).drew HX7.out.lt)
    have HCW : Hid (∀ i u, (edC xk (.slice Aw xw.length cw) xp (.slice An xpf.len cn) xo (.slice Ao xof.len co))[i]? = some u → w7.drew.cell? ⟨g9, o9 + j * 14 + i, none⟩ = some u) := HCL7
    refine wp_region_noPanic ?_
    refine wp_region_held_drew (S := fun _ => True) (by kernel_rfl) trivial (fun hS => ?_)
    refine held_more (S' := fun w' => Blk w' w.heap.size 27 (cN a (.slice A f.len c)) ∧ (∀ i u, (edC xk (.slice Aw xw.length cw) xp (.slice An xpf.len cn) xo (.slice Ao xof.len co))[i]? = some u → w'.cell? ⟨g9, o9 + j * 14 + i, none⟩ = some u)) (fun _ _ => trivial) _ _ _ _ ?_
    replace hS := And.intro HMW.out HCW.out
    refine tkH 0 hS ?_ (hy := fun w hSw => by obtain ⟨q0, q1, q2, q3, q4, q5⟩ := cl6 hSw.1; (go_simp <;> with_reducible rfl))
    refine tkH 1 hS ?_
    refine tkH 2 hS ?_
    refine tkH 3 hS ?_
    refine tkH 4 hS ?_ (hy := fun w hSw => by have p0 : w.cell? ⟨g9, o9 + j * 14, none⟩ = _ := hSw.2 0 _ rfl; have p1 := hSw.2 1 _ rfl; have p2 := hSw.2 2 _ rfl; have p3 := hSw.2 3 _ rfl; have p4 := hSw.2 4 _ rfl; have p5 := hSw.2 5 _ rfl; have p6 := hSw.2 6 _ rfl; have p7 := hSw.2 7 _ rfl; have p8 := hSw.2 8 _ rfl; have p9 := hSw.2 9 _ rfl; have p10 := hSw.2 10 _ rfl; have p11 := hSw.2 11 _ rfl; have p12 := hSw.2 12 _ rfl; have p13 := hSw.2 13 _ rfl; (go_simp <;> with_reducible rfl))
    refine rdy [5, 9] (rdC (fun K hK => ?str_0) (rdC (fun K hK => ?str_1) .nil))
    case' str_0 =>
     go_simp
     refine (HD1.out _ HWW.out).out.mono ?_
     intro r w16 hr
     obtain ⟨A8, c8, rfl, hl9, hb⟩ := hr.flat
     have HL9 := hHd (hl9.after HWW.out.size)
     have HWW := hHd (HWW.out.trans (hb.mono HWW.out.size))
     have HS7 := hHd (hS.1.below hb hS.1.lt)
     clear hb hr hl9
     go_wp2_with fail
     refine hK.out _ _ ?sr_0 (fun hS => ?_)
     case sr_0 => (exact ⟨HS7.out, fun i u hu => (HWW.out.cell (p := ⟨g9, o9 + j * 14 + i, none⟩) HG7.out).trans (HCL7.out i u hu)⟩)
     clear hK K
     (try simp only [Act.put, layS])
     refine tkH 6 hS ?_
     refine tkH 7 hS ?_
     refine tkH 8 hS ?_
     refine rdy1 9 fun K hK => ?_
     have HZN : Hid (Blk ((w16).alloc (.cells #[.string ⟨#[]⟩, .string ⟨#[]⟩, .int .i64 0, .int .u64 0, .string ⟨#[]⟩, .slice none 0 0] 27)) (w16.heap.size) 27 #[.string ⟨#[]⟩, .string ⟨#[]⟩, .int .i64 0, .int .u64 0, .string ⟨#[]⟩, .slice none 0 0]) := hHd (blk_at17 rfl _ _)
     have HZB : Hid (w7.heap.size ≤ (w16.heap.size)) := hHd (by first | exact Nat.le_refl _ | exact HWW.out.size)
     have hb : Below (w16).heap.size (w16) ((w16).alloc (.cells #[.string ⟨#[]⟩, .string ⟨#[]⟩, .int .i64 0, .int .u64 0, .string ⟨#[]⟩, .slice none 0 0] 27)) := bAl
     have HQ9 := Veil17.mk (apM_al (S := fun g => g < w7.heap.size) (w := w7) (fun _ h => h) HWW.out HL9.out)
     have HWW := hHd (HWW.out.trans (hb.mono HWW.out.size))
     clear hb
     go_simp
     refine hK.out _ _ ?sr_2 (fun hS => ?_)
     case sr_2 => (exact ⟨hS.1.below bAl hS.1.lt, fun i u hu => (HWW.out.cell (p := ⟨g9, o9 + j * 14 + i, none⟩) HG7.out).trans (HCL7.out i u hu)⟩)
     clear hK K
     (try simp only [Act.put, layS])
     refine rdy1 10 fun K hK => ?_
     have g0 := HZN.out.frozen 0
     have g1 := HZN.out.frozen 1
     have g2 := HZN.out.frozen 2
     have g3 := HZN.out.frozen 3
     have g4 := HZN.out.frozen 4
     have g5 := HZN.out.frozen 5
     obtain ⟨k0, k1, k2, k3, k4, k5⟩ := cl6 HZN.out
     clear HWW HZN HL9
     go_simp
     refine hK.out _ _ ?sr_3 (fun hS => ?_)
     case sr_3 => (refine ⟨?_, fun i u hu => (HQ9.out.1.cell (p := ⟨g9, o9 + j * 14 + i, none⟩) HG7.out).trans (HCL7.out i u hu)⟩; exact (HQ9.out.1.block w.heap.size HX7.out.lt).trans HX7.out)
     clear hK K
     (try simp only [Act.put, layS])
     refine tkH 11 hS ?_
     refine wpAnyH_done (by kernel_rfl) ?_ _
     refine NoPanic.normal ?_
    case' str_1 =>
     have HZN : Hid (Blk ((w7.drew).alloc (.cells #[.string ⟨#[]⟩, .string ⟨#[]⟩, .int .i64 0, .int .u64 0, .string ⟨#[]⟩, .slice none 0 0] 27)) (w7.heap.size) 27 #[.string ⟨#[]⟩, .string ⟨#[]⟩, .int .i64 0, .int .u64 0, .string ⟨#[]⟩, .slice none 0 0]) := hHd (blk_at17 rfl _ _)
     have HZB : Hid (w7.heap.size ≤ (w7.heap.size)) := hHd (by first | exact Nat.le_refl _ | exact HWW.out.size)
     have hb : Below (w7.drew).heap.size (w7.drew) ((w7.drew).alloc (.cells #[.string ⟨#[]⟩, .string ⟨#[]⟩, .int .i64 0, .int .u64 0, .string ⟨#[]⟩, .slice none 0 0] 27)) := bAl
     have HWW := hHd (HWW.out.trans (hb.mono HWW.out.size))
     clear hb
     go_simp
     refine hK.out _ _ ?sr_1 (fun hS => ?_)
     case sr_1 => (exact ⟨hS.1.below bAl hS.1.lt, fun i u hu => (HWW.out.cell (p := ⟨g9, o9 + j * 14 + i, none⟩) HG7.out).trans (HCL7.out i u hu)⟩)
     clear hK K
     (try simp only [Act.put, layS])
     refine rdy1 5 fun K hK => ?_
     go_simp
     refine (HD1.out _ HWW.out).out.mono ?_
     intro r w16 hr
     obtain ⟨A8, c8, rfl, hl9, hb⟩ := hr.flat
     have HL9 := hHd hl9
     have HZL := hHd HZN.out.lt
     have HWW := hHd (HWW.out.trans (hb.mono HWW.out.size))
     have HZN := hHd (HZN.out.below hb HZN.out.lt)
     have HS7 := hHd (hS.1.below hb hS.1.lt)
     clear hb hr hl9
     go_wp2_with fail
     refine hK.out _ _ ?sr_4 (fun hS => ?_)
     case sr_4 => (exact ⟨HS7.out, fun i u hu => (HWW.out.cell (p := ⟨g9, o9 + j * 14 + i, none⟩) HG7.out).trans (HCL7.out i u hu)⟩)
     clear hK K
     (try simp only [Act.put, layS])
     refine tkH 6 hS ?_
     refine tkH 7 hS ?_
     refine tkH 8 hS ?_
     refine rdy1 10 fun K hK => ?_
     have HQ9 := Veil17.mk (apM_of (S := fun g => g < w7.heap.size) (w := w7) (fun _ h => h) HWW.out HZN.out HL9.out HZB.out HZL.out)
     have g0 := HZN.out.frozen 0
     have g1 := HZN.out.frozen 1
     have g2 := HZN.out.frozen 2
     have g3 := HZN.out.frozen 3
     have g4 := HZN.out.frozen 4
     have g5 := HZN.out.frozen 5
     obtain ⟨k0, k1, k2, k3, k4, k5⟩ := cl6 HZN.out
     clear HWW HZN HL9
     go_simp
     refine hK.out _ _ ?sr_5 (fun hS => ?_)
     case sr_5 => (refine ⟨?_, fun i u hu => (HQ9.out.1.cell (p := ⟨g9, o9 + j * 14 + i, none⟩) HG7.out).trans (HCL7.out i u hu)⟩; exact (HQ9.out.1.block w.heap.size HX7.out.lt).trans HX7.out)
     clear hK K
     (try simp only [Act.put, layS])
     refine tkH 11 hS ?_
     refine wpAnyH_done (by kernel_rfl) ?_ _
     refine NoPanic.normal ?_
    all_goals (go_wp2_with fail; go_meet; exact ⟨_, _, _, rfl, rfl, hHd HQ9.out⟩)
   case rest =>
    obtain ⟨b7, A7, c7, rfl, rfl, Q7⟩ := hcut
    obtain ⟨w9, hw9⟩ : ∃ w9, w9 = wc := ⟨_, rfl⟩
    subst hw9
    have HX9 := hHd (HX7.out.below Q7.out.1 HX7.out.lt)
    have HB9 := hHd (HB7.out.trans (Q7.out.1.mono HB7.out.size))
    have HG9 : Hid (g9 < w9.heap.size) := hHd (Nat.lt_of_lt_of_le HG7.out Q7.out.1.size)
    have HCL9 : Hid (∀ i u, (edC xk (.slice Aw xw.length cw) xp (.slice An xpf.len cn) xo (.slice Ao xof.len co))[i]? = some u → w9.cell? ⟨g9, o9 + j * 14 + i, none⟩ = some u) := hHd (fun i u hu => (Q7.out.1.cell (p := ⟨g9, o9 + j * 14 + i, none⟩) HG7.out).trans (HCL7.out i u hu))
    have HY9 : Hid (Blk w9 b7 27 (cN ra (.slice A7 rf.len c7))) := hHd Q7.out.2.1
    have LY9 : Hid (LieN w9 (ndC ra (.slice A7 rf.len c7)) (ra, rf)) := hHd (Q7.out.2.2.lies (fun g hg => Nat.lt_of_lt_of_le hg Q7.out.1.size))
    have HD3 := hHd (HD2.out w9 HB9.out)
    clear Q7 HX7 HB7 HG7 HCL7 HD1 HD2
    go_wp2_with fail
    go_cut [11, 12] (fun t11 t12 wx => ∃ (b8 : Nat) (A8 : Option Addr) (c8 : Nat), t11 = .pointer (some ⟨b8, 0, none⟩) ∧ t12 = .int .i64 (E : Int) ∧ Hid (ApM (fun g => g < w9.heap.size) w9 b8 ra rf A8 c8 wx))
    case first =>
     have HWW : Hid (Below w9.heap.size w9 w9.drew) := hHd (Below.refl _ _).drew
     have HMW : Hid (Blk w9.drew w.heap.size 27 (cN a (.slice A f.len c))) := hHd (HX9.out.below (Below.refl _ _).drew HX9.out.lt)
     have HCW : Hid (∀ i u, (edC xk (.slice Aw xw.length cw) xp (.slice An xpf.len cn) xo (.slice Ao xof.len co))[i]? = some u → w9.drew.cell? ⟨g9, o9 + j * 14 + i, none⟩ = some u) := HCL9
     refine wp_region_noPanic ?_
     refine wp_region_held_drew (S := fun _ => True) (by kernel_rfl) trivial (fun hS => ?_)
     refine held_more (S' := fun w' => Blk w' w.heap.size 27 (cN a (.slice A f.len c)) ∧ (∀ i u, (edC xk (.slice Aw xw.length cw) xp (.slice An xpf.len cn) xo (.slice Ao xof.len co))[i]? = some u → w'.cell? ⟨g9, o9 + j * 14 + i, none⟩ = some u)) (fun _ _ => trivial) _ _ _ _ ?_
     replace hS := And.intro HMW.out HCW.out
     refine tkH 0 hS ?_ (hy := fun w hSw => by obtain ⟨q0, q1, q2, q3, q4, q5⟩ := cl6 hSw.1; (go_simp <;> with_reducible rfl))
     refine tkH 1 hS ?_
     refine tkH 2 hS ?_
     refine tkH 3 hS ?_
     refine tkH 4 hS ?_ (hy := fun w hSw => by have p0 : w.cell? ⟨g9, o9 + j * 14, none⟩ = _ := hSw.2 0 _ rfl; have p1 := hSw.2 1 _ rfl; have p2 := hSw.2 2 _ rfl; have p3 := hSw.2 3 _ rfl; have p4 := hSw.2 4 _ rfl; have p5 := hSw.2 5 _ rfl; have p6 := hSw.2 6 _ rfl; have p7 := hSw.2 7 _ rfl; have p8 := hSw.2 8 _ rfl; have p9 := hSw.2 9 _ rfl; have p10 := hSw.2 10 _ rfl; have p11 := hSw.2 11 _ rfl; have p12 := hSw.2 12 _ rfl; have p13 := hSw.2 13 _ rfl; (go_simp <;> with_reducible rfl))
     refine rdy [5, 9] (rdC (fun K hK => ?str_6) (rdC (fun K hK => ?str_7) .nil))
     case' str_6 =>
      go_simp
      refine (HD3.out _ HWW.out).out.mono ?_
      intro r w16 hr
      obtain ⟨A8, c8, rfl, hl9, hb⟩ := hr.flat
      have HL9 := hHd (hl9.after HWW.out.size)
      have HWW := hHd (HWW.out.trans (hb.mono HWW.out.size))
      have HS7 := hHd (hS.1.below hb hS.1.lt)
      clear hb hr hl9
      go_wp2_with fail
      refine hK.out _ _ ?sr_6 (fun hS => ?_)
      case sr_6 => (exact ⟨HS7.out, fun i u hu => (HWW.out.cell (p := ⟨g9, o9 + j * 14 + i, none⟩) HG9.out).trans (HCL9.out i u hu)⟩)
      clear hK K
      (try simp only [Act.put, layS])
      refine tkH 6 hS ?_
      refine tkH 7 hS ?_
      refine tkH 8 hS ?_
      refine rdy1 9 fun K hK => ?_
      have HZN : Hid (Blk ((w16).alloc (.cells #[.string ⟨#[]⟩, .string ⟨#[]⟩, .int .i64 0, .int .u64 0, .string ⟨#[]⟩, .slice none 0 0] 27)) (w16.heap.size) 27 #[.string ⟨#[]⟩, .string ⟨#[]⟩, .int .i64 0, .int .u64 0, .string ⟨#[]⟩, .slice none 0 0]) := hHd (blk_at17 rfl _ _)
      have HZB : Hid (w9.heap.size ≤ (w16.heap.size)) := hHd (by first | exact Nat.le_refl _ | exact HWW.out.size)
      have hb : Below (w16).heap.size (w16) ((w16).alloc (.cells #[.string ⟨#[]⟩, .string ⟨#[]⟩, .int .i64 0, .int .u64 0, .string ⟨#[]⟩, .slice none 0 0] 27)) := bAl
      have HQ9 := Veil17.mk (apM_al (S := fun g => g < w9.heap.size) (w := w9) (fun _ h => h) HWW.out HL9.out)
      have HWW := hHd (HWW.out.trans (hb.mono HWW.out.size))
      clear hb
      go_simp
      refine hK.out _ _ ?sr_8 (fun hS => ?_)
      case sr_8 => (exact ⟨hS.1.below bAl hS.1.lt, fun i u hu => (HWW.out.cell (p := ⟨g9, o9 + j * 14 + i, none⟩) HG9.out).trans (HCL9.out i u hu)⟩)
      clear hK K
      (try simp only [Act.put, layS])
      refine rdy1 10 fun K hK => ?_
      have g0 := HZN.out.frozen 0
      have g1 := HZN.out.frozen 1
      have g2 := HZN.out.frozen 2
      have g3 := HZN.out.frozen 3
      have g4 := HZN.out.frozen 4
      have g5 := HZN.out.frozen 5
      obtain ⟨k0, k1, k2, k3, k4, k5⟩ := cl6 HZN.out
      clear HWW HZN HL9
      go_simp
      refine hK.out _ _ ?sr_9 (fun hS => ?_)
      case sr_9 => (refine ⟨?_, fun i u hu => (HQ9.out.1.cell (p := ⟨g9, o9 + j * 14 + i, none⟩) HG9.out).trans (HCL9.out i u hu)⟩; exact (HQ9.out.1.block w.heap.size HX9.out.lt).trans HX9.out)
      clear hK K
      (try simp only [Act.put, layS])
      refine tkH 11 hS ?_
      refine wpAnyH_done (by kernel_rfl) ?_ _
      refine NoPanic.normal ?_
     case' str_7 =>
      have HZN : Hid (Blk ((w9.drew).alloc (.cells #[.string ⟨#[]⟩, .string ⟨#[]⟩, .int .i64 0, .int .u64 0, .string ⟨#[]⟩, .slice none 0 0] 27)) (w9.heap.size) 27 #[.string ⟨#[]⟩, .string ⟨#[]⟩, .int .i64 0, .int .u64 0, .string ⟨#[]⟩, .slice none 0 0]) := hHd (blk_at17 rfl _ _)
      have HZB : Hid (w9.heap.size ≤ (w9.heap.size)) := hHd (by first | exact Nat.le_refl _ | exact HWW.out.size)
      have hb : Below (w9.drew).heap.size (w9.drew) ((w9.drew).alloc (.cells #[.string ⟨#[]⟩, .string ⟨#[]⟩, .int .i64 0, .int .u64 0, .string ⟨#[]⟩, .slice none 0 0] 27)) := bAl
      have HWW := hHd (HWW.out.trans (hb.mono HWW.out.size))
      clear hb
      go_simp
      refine hK.out _ _ ?sr_7 (fun hS => ?_)
      case sr_7 => (exact ⟨hS.1.below bAl hS.1.lt, fun i u hu => (HWW.out.cell (p := ⟨g9, o9 + j * 14 + i, none⟩) HG9.out).trans (HCL9.out i u hu)⟩)
      clear hK K
      (try simp only [Act.put, layS])
      refine rdy1 5 fun K hK => ?_
      go_simp
      refine (HD3.out _ HWW.out).out.mono ?_
      intro r w16 hr
      obtain ⟨A8, c8, rfl, hl9, hb⟩ := hr.flat
      have HL9 := hHd hl9
      have HZL := hHd HZN.out.lt
      have HWW := hHd (HWW.out.trans (hb.mono HWW.out.size))
      have HZN := hHd (HZN.out.below hb HZN.out.lt)
      have HS7 := hHd (hS.1.below hb hS.1.lt)
      clear hb hr hl9
      go_wp2_with fail
      refine hK.out _ _ ?sr_a (fun hS => ?_)
      case sr_a => (exact ⟨HS7.out, fun i u hu => (HWW.out.cell (p := ⟨g9, o9 + j * 14 + i, none⟩) HG9.out).trans (HCL9.out i u hu)⟩)
      clear hK K
      (try simp only [Act.put, layS])
      refine tkH 6 hS ?_
      refine tkH 7 hS ?_
      refine tkH 8 hS ?_
      refine rdy1 10 fun K hK => ?_
      have HQ9 := Veil17.mk (apM_of (S := fun g => g < w9.heap.size) (w := w9) (fun _ h => h) HWW.out HZN.out HL9.out HZB.out HZL.out)
      have g0 := HZN.out.frozen 0
      have g1 := HZN.out.frozen 1
      have g2 := HZN.out.frozen 2
      have g3 := HZN.out.frozen 3
      have g4 := HZN.out.frozen 4
      have g5 := HZN.out.frozen 5
      obtain ⟨k0, k1, k2, k3, k4, k5⟩ := cl6 HZN.out
      clear HWW HZN HL9
      go_simp
      refine hK.out _ _ ?sr_b (fun hS => ?_)
      case sr_b => (refine ⟨?_, fun i u hu => (HQ9.out.1.cell (p := ⟨g9, o9 + j * 14 + i, none⟩) HG9.out).trans (HCL9.out i u hu)⟩; exact (HQ9.out.1.block w.heap.size HX9.out.lt).trans HX9.out)
      clear hK K
      (try simp only [Act.put, layS])
      refine tkH 11 hS ?_
      refine wpAnyH_done (by kernel_rfl) ?_ _
      refine NoPanic.normal ?_
     all_goals (go_wp2_with fail; go_meet; exact ⟨_, _, _, rfl, rfl, hHd HQ9.out⟩)
    case rest =>
     obtain ⟨b8, A8, c8, rfl, rfl, Q8⟩ := hcut
     obtain ⟨w10, hw10⟩ : ∃ w10, w10 = wc := ⟨_, rfl⟩
     subst hw10
     have HX10 := hHd (HX9.out.below Q8.out.1 HX9.out.lt)
     have HB10 := hHd (HB9.out.trans (Q8.out.1.mono HB9.out.size))
     have HY10 := hHd (HY9.out.below Q8.out.1 HY9.out.lt)
     have HZ10 : Hid (Blk w10 b8 27 (cN ra (.slice A8 rf.len c8))) := hHd Q8.out.2.1
     have D8 := HSS.out _ _ _ (LY9.out.below Q8.out.1) (Q8.out.2.2.lies (fun g hg => Nat.lt_of_lt_of_le hg Q8.out.1.size))
     clear Q8 HX9 HB9 HG9 HCL9 HY9 LY9 HD3
     have z0 : ((E : Int) == (E : Int)) = true := by simp
     have z1 : ((E : Int) != (E : Int)) = false := by simp
     obtain ⟨q0, q1, q2, q3, q4, q5⟩ := cl6 HY10.out
     obtain ⟨y0, y1, y2, y3, y4, y5⟩ := cl6 HZ10.out
     go_wp2_with fail
     refine D8.out.mono ?_
     rintro r w11 ⟨rfl, hb⟩
     have HX11 := hHd (HX10.out.below hb HX10.out.lt)
     have HB11 := hHd (HB10.out.trans (hb.mono HB10.out.size))
     clear hb D8 q0 q1 q2 q3 q4 q5 y0 y1 y2 y3 y4 y5
     go_wp2
     go_roundw
     case rel => exact ⟨j + 1, by omega, by go_num, HX11, HB11⟩
     case measure => simp [intOf]; omega
  ·obtain rfl : j = l.length := by omega
   have i2 : ¬ (l.length : Int) < (l.length : Int) := by omega
   obtain ⟨⟨⟨ra, rf⟩, e, i⟩, hX⟩ : ∃ x, x = runXE (a, f) l 0 := ⟨_, rfl⟩
   have RU : Hid (runXE (a, f) l 0 = ((ra, rf), e, i)) := hHd hX.symm
   have hrs : rf.size ≤ 1000000 := by
    have h := run_size l (a, f) 0 (fun e he => (HFO.out e he).1.2.1)
    rw [← hX] at h
    simp only at h
    omega
   have HS : ∀ W cs ds, LieN W cs (ra, rf) → LieN W ds (ra, rf) → Hid (Calls Try.prog 12 #[.agg cs.toArray, .agg ds.toArray] W (Ans9 (.bool true) W)) := fun W cs ds h1 h2 => hHd (by
    have h := rsamet_any (ra, rf) (ra, rf) cs ds W h1 h2 hrs hrs
    rw [decide_eq_true rfl] at h
    exact h)
   have HSS := hHd HS
   have e0 : ((e : Int) == (e : Int)) = true := by simp
   have e1 : ((i : Int) == (i : Int)) = true := by simp
   clear hX hrs HS hlt
   obtain ⟨q0, q1, q2, q3, q4, q5⟩ := cl6 HX7.out
   go_wp2_with fail
   refine (HC.out.apply w.heap.size (a, f) l _ _ _ HB7.out.size (HXL.out.under HB7.out (Nat.le_refl _) (Nat.le_refl _)) (HV.out.below HB7.out) FW.out RG.out (fun e he => (HFO.out e he).2) HB7.out).mono ?_
   intro r w8 hr
   obtain ⟨A7, c7, rfl, hl8, hb⟩ := hr.flat RU.out
   have hba : Below w8.heap.size w8 (w8.alloc (.cells (cN ra (.slice A7 rf.len c7)) 27)) := bAl
   have hb78 := hb.trans (hba.mono hb.size)
   have HX8 := hHd (HX7.out.below hb78 HX7.out.lt)
   have HB8 := hHd (HB7.out.trans (hb78.mono HB7.out.size))
   have HY8 : Hid (Blk (w8.alloc (.cells (cN ra (.slice A7 rf.len c7)) 27)) w8.heap.size 27 (cN ra (.slice A7 rf.len c7))) := hHd (Blk.new _ _ _)
   have LY8 : Hid (LieN (w8.alloc (.cells (cN ra (.slice A7 rf.len c7)) 27)) (ndC ra (.slice A7 rf.len c7)) (ra, rf)) := hHd ((hl8.lies (Nat.le_trans HB7.out.size hb.size)).below hba)
   have HV8 := hHd (HV.out.below HB8.out)
   clear hr hl8 hb hba hb78 q0 q1 q2 q3 q4 q5
   obtain ⟨q0, q1, q2, q3, q4, q5⟩ := cl6 HX8.out
   go_wp2_with fail
   refine (rapply17_any (a, f) l _ _ _ (HXL.out.below HB8.out) HV8.out FW.out).mono ?_
   intro r w9 hr
   obtain ⟨A8, c8, rfl, hl9, hb⟩ := hr.flat RU.out
   have hba : Below w9.heap.size w9 (w9.alloc (.cells (cN ra (.slice A8 rf.len c8)) 27)) := bAl
   have hb89 := hb.trans (hba.mono hb.size)
   have HB9 := hHd (HB8.out.trans (hb89.mono HB8.out.size))
   have HY9 := hHd (HY8.out.below hb89 HY8.out.lt)
   have HZ9 : Hid (Blk (w9.alloc (.cells (cN ra (.slice A8 rf.len c8)) 27)) w9.heap.size 27 (cN ra (.slice A8 rf.len c8))) := hHd (Blk.new _ _ _)
   have D9 := HSS.out _ _ _ (LY8.out.below hb89) (hl9.below hba)
   clear hr hl9 hb hba hb89 q0 q1 q2 q3 q4 q5
   obtain ⟨q0, q1, q2, q3, q4, q5⟩ := cl6 HY9.out
   obtain ⟨y0, y1, y2, y3, y4, y5⟩ := cl6 HZ9.out
   go_wp2_with fail
   refine D9.out.mono ?_
   rintro r w10 ⟨rfl, hb⟩
   have HB10 := hHd (HB9.out.trans (hb.mono HB9.out.size))
   clear hb D9
   go_wp2
   go_ret
   exact ⟨rfl, HB10.out⟩
theorem patchTells_walk (a : NdD) (f : NdF) (l : List EdD) (A : Option Addr) (c : Nat) (v : Value) (w : World) (hx : LieN w (ndC a (.slice A f.len c)) (a, f)) (hv : EdsV (Bel w) w v l) (hf : f.size ≤ 1000000) (hl : FewN17 l) (C : PatC w) (HA : Awake17 w) : Calls Try.prog 3 #[.agg (cN a (.slice A f.len c)), v] w (Ans9 (.bool true) w) := by
 cases hs : smallX a a f f with
 | true =>
  cases ht : fewR17 l with
  | true => exact patchTells_yes a f l A c v w hx hv hf hl C HA hs ht
  | false => exact patchTells_not a f l A c v w hx hv hf hl C HA true false hs ht rfl
 | false => exact patchTells_not a f l A c v w hx hv hf hl C HA false (fewR17 l) hs rfl rfl
end
end Go.Proofs.Ythmobcaidhgeaaa
