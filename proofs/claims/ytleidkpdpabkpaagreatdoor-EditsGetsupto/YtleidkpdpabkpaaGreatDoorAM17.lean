/- EdtRefK -/
import Derived.Test.YtleidkpdpabkpaaGreatDoorAM14
import Derived.Test.YtleidkpdpabkpaaGreatDoorAM16
set_option linter.unusedSimpArgs false
set_option linter.unusedVariables false
set_option maxRecDepth 100000
set_option maxHeartbeats 8000000
namespace Go.Proofs.YtleidkpdpabkpaaGreatDoor
open Go.RowKit
section
attribute [local go_sem] Oper.semAt_some
theorem redE_drop18 {u : Nat} {d : List UInt8} {q : Fo} {f : Fo} {j : Nat} (h : Fo.drop j f = .cons u d q (Fo.drop (j + 1) f)) : redE18 V18 (Fo.drop j f) = ⟨((u % 256 / 2 : Nat) : Int), (parseX15 (dat18 2 q)).1, read18 V18 3 q, read18 V18 5 q⟩ :: redE18 V18 (Fo.drop (j + 1) f) := by rw [h]; rfl
def OwnW18 (base : Nat) (w : World) (v : Value) (l : List EdD) : Prop := ∃ S, OwnE base S w v l
theorem OwnW18.more {base : Nat} {w w' : World} {v : Value} {l : List EdD} {cs : List Value} {e : EdD} (h : OwnW18 base w v l) (hb : Below w.heap.size w w') (he : EdS (fun g => w.heap.size ≤ g ∧ g < w'.heap.size) w' cs e) :
  ∃ S, OwnE base S w' v l ∧ EdS S w' cs e := by
 obtain ⟨S, h2⟩ := h
 have h3 := h2.below hb
 refine ⟨fun g => S g ∨ (w.heap.size ≤ g ∧ g < w'.heap.size), h3.widen (fun g hg => .inl hg) (fun g hg => ?_), EdS.keep he (fun _ _ => rfl) (fun g hg => .inr hg)⟩
 rcases hg with hg | hg
 ·exact h3.1 g hg
 ·exact ⟨hg.2, fun e => by have := (h2.lt g e.symm).2; have := hg.1; omega⟩
theorem OwnW18.eds {base : Nat} {w : World} {v : Value} {l : List EdD} (h : OwnW18 base w v l) : EdsV (Bel w) w v l := by
 obtain ⟨S, h2⟩ := h
 exact EdsV.keep h2.eds (fun _ _ => rfl) (fun g hg => hg.elim (fun h => (h2.1 g h).1) (fun h => (h2.lt g h).2))
theorem OwnW18.shape {base : Nat} {w : World} {v : Value} {l : List EdD} (h : OwnW18 base w v l) : ∃ A c, v = .slice A l.length c := h.choose_spec.shape
theorem ed_new18 {w7 w8 w15 w21 W : World} {A3 A5 A6 : Option Addr} {c3 c5 c6 : Nat} {k : Int} {way : List Stp} {na oa : NdD} {nf of : NdF} (hw : WayN15 w7.heap.size w8 (.slice A3 way.length c3) way)
  (hn : LieP 0 w8.heap.size w15 (ndC na (.slice A5 nf.len c5)) (na, nf)) (ho : LieP 0 w15.heap.size w21 (ndC oa (.slice A6 of.len c6)) (oa, of)) (h78 : w7.heap.size ≤ w8.heap.size) (h8 : Below w8.heap.size w8 w15) (h15 : Below w15.heap.size w15 w21) (h21 : Below w21.heap.size w21 W) :
  EdS (fun g => w7.heap.size ≤ g ∧ g < W.heap.size) W (edC k (.slice A3 way.length c3) na (.slice A5 nf.len c5) oa (.slice A6 of.len c6)) ⟨k, way, (na, nf), (oa, of)⟩ := by
 have b15 : Below w15.heap.size w15 W := h15.trans (h21.mono h15.size)
 have b8 : Below w8.heap.size w8 W := h8.trans (b15.mono h8.size)
 refine ⟨_, _, _, rfl, WayS.keep (S := fun g => w7.heap.size ≤ g ∧ g < w8.heap.size) hw (fun g hg => b8.block g hg.2) (fun g hg => ⟨hg.1, Nat.lt_of_lt_of_le hg.2 b8.size⟩), ?_, ?_⟩
 ·obtain ⟨A, c, e, h1⟩ := hn.shape
  have e2 : (.slice A5 nf.len c5 : Value) = .slice A nf.len c := by have := congrArg (fun l => l[5]?) e; injection this
  rw [e2]
  exact RowS.keep (S := fun g => g < 0 ∨ (w8.heap.size ≤ g ∧ g < w15.heap.size)) h1 (fun g hg => b15.block g (hg.elim (fun h => absurd h (Nat.not_lt_zero _)) (·.2))) (fun g hg => hg.elim (fun h => absurd h (Nat.not_lt_zero _)) (fun h => ⟨Nat.le_trans h78 h.1, Nat.lt_of_lt_of_le h.2 b15.size⟩))
 ·obtain ⟨A, c, e, h1⟩ := ho.shape
  have e2 : (.slice A6 of.len c6 : Value) = .slice A of.len c := by have := congrArg (fun l => l[5]?) e; injection this
  rw [e2]
  exact RowS.keep (S := fun g => g < 0 ∨ (w15.heap.size ≤ g ∧ g < w21.heap.size)) h1 (fun g hg => h21.block g (hg.elim (fun h => absurd h (Nat.not_lt_zero _)) (·.2))) (fun g hg => hg.elim (fun h => absurd h (Nat.not_lt_zero _)) (fun h => ⟨Nat.le_trans h78 (Nat.le_trans h8.size h.1), Nat.lt_of_lt_of_le h.2 h21.size⟩))
theorem right_sz18 : ∀ (f : Fo) (deep : Nat), Fo.right deep f = true → f.sz ≤ f.all.length := by
 intro f
 induction f with
 | nil => intro _ _; exact Nat.le_refl _
 | cons t d k r ihk ihr =>
  intro deep h
  simp only [Fo.right, Bool.and_eq_true] at h
  obtain ⟨⟨⟨h1, h2⟩, h3⟩, h4⟩ := h
  have k1 := ihk _ h3
  have r1 := ihr _ h4
  have e1 := (encV_length 9 t).1
  have e2 := (encV_length 9 (Fo.inn t d k.all).length).1
  simp only [Fo.sz, Fo.all, List.length_append]
  by_cases ht : t % 2 = 0
  ·have hk : k = .nil := by
    rw [if_neg (by omega)] at h2
    cases k with
    | nil => rfl
    | cons => simp [Fo.len] at h2
   subst hk
   have hi : (Fo.inn t d (Fo.nil.all)).length = d.length := by unfold Fo.inn; rw [if_neg (by omega)]
   simp only [Fo.sz]
   omega
  ·have hd : d = [] := by
    rw [if_pos (by omega)] at h2
    cases d with
    | nil => rfl
    | cons => cases h2
   subst hd
   have hi : (Fo.inn t [] k.all).length = k.all.length := by unfold Fo.inn; rw [if_pos (by omega)]
   simp only [List.length_nil]
   omega
theorem got_sz18 {b : List UInt8} (h : (got18 b).2.1 = 0) (hb : b.length ≤ 100000) : (got18 b).1.sz ≤ b.length := by
 unfold got18 at h ⊢
 split at h
 ·cases h
 ·rename_i h8
  rw [if_neg h8]
  obtain ⟨h1, h2⟩ := gt_own b.length b 1 0 (Nat.le_refl _) (by omega) h
  have h5 := right_sz18 _ _ h2.1
  rw [h1] at h5
  omega
def GetP18 (b : List UInt8) (w : World) (r : Ending) (w' : World) : Prop := ∃ v, r = .returned (.tuple #[v, .int .i64 (getX18 leastB V18 b).2]) ∧ EdsV (Bel w') w' v (getX18 leastB V18 b).1 ∧ Below w.heap.size w w'
theorem rget18_any (b : List UInt8) (w : World) (hb : b.length ≤ 100000) : Calls Tryz.prog 15 #[.string (txt b)] w (GetP18 b w) := by
 have hg := rgetall_any b w hb
 obtain ⟨⟨f, e, p⟩, hf⟩ : ∃ x, x = gotOf b := ⟨_, rfl⟩
 rw [← hf] at hg
 have hfg : got18 b = (f, e, p) := hf.symm
 have HG := hHd hg
 by_cases he : e = 0
 rotate_left
 ·have e1 : (e == 0) = false := beq_eq_false_iff_ne.2 he
  have e2 : (e != 0) = true := by simp [he]
  have HX : Hid (getX18 leastB V18 b = ([], e)) := hHd (by unfold getX18; rw [hfg, if_pos he])
  clear hg hf hfg he hb
  go_enter Tryz.func15, Tryz.ntmps15
  go_wp2_with fail
  refine HG.out.mono ?_
  rintro r w1 ⟨v0, rfl, hv, hb1⟩
  have HB1 := hHd hb1
  clear hb1 hv
  go_wp2_with fail
  go_ret2
  unfold GetP18
  rw [HX.out]
  exact ⟨_, rfl, EdsV.nil _ _, HB1.out⟩
 ·subst he
  have hsz := got_sz18 (by rw [hfg]) hb
  rw [hfg] at hsz
  simp only at hsz
  obtain ⟨k1, k2, k3⟩ := redE_ok18 f (by omega)
  have hkl := len_sz18 f
  obtain ⟨E, hE⟩ : ∃ E, E = redE18 V18 f := ⟨_, rfl⟩
  rw [← hE] at k1 k2 k3
  have HX : Hid (getX18 leastB V18 b = if (putX18 leastB E).2 ≠ 0 ∨ (putX18 leastB E).1 ≠ b then ([], 11) else (E, 0)) := hHd (by
   unfold getX18
   rw [hfg]
   simp only
   rw [if_neg (by simp), ← hE])
  have HEE := hHd hE
  have HK1 := hHd k1
  have HK2 : Hid ((itsE18 leastB E).sz ≤ 1099511627776) := hHd (by omega)
  have HK3 : Hid (E.length ≤ 1000000) := hHd (by omega)
  have HFS : Hid (f.sz ≤ 100000) := hHd (by omega)
  have HFL : Hid (f.len ≤ 1000000) := hHd (by omega)
  clear hg hf hfg hsz k1 k2 k3 hkl hE hb
  go_enter Tryz.func15, Tryz.ntmps15
  go_wp2_with fail
  refine HG.out.mono ?_
  rintro r w1 ⟨v0, rfl, hv, hb1⟩
  have HB1 := hHd hb1
  have HV : Hid (FV DataR w1 (Lo w1) v0 f) := hHd (hv.kept stays_R (fun _ _ => rfl) (fun g hg => hg.2))
  obtain ⟨A, c, rfl⟩ := hv.shape
  clear hb1 hv HG
  have HO0 : Hid (OwnW18 w1.heap.size w1 (.slice none 0 0) []) := hHd ⟨fun _ => False, OwnE.nil _ _ (fun _ h => h.elim)⟩
  have HBB0 : Hid (Below w1.heap.size w1 w1) := hHd (Below.refl _ _)
  go_wp2
  go_loopw [7, 8] (fun u i wr => ∃ (v : Value) (j : Nat) (M : List EdD), j ≤ f.len ∧ v = u ∧ i = .int .i64 (j : Int) ∧ Hid (E = M ++ redE18 V18 (Fo.drop j f)) ∧ Hid (OwnW18 w1.heap.size wr v M) ∧ Hid (Below w1.heap.size w1 wr)) (fun _ i _ => f.len - (intOf i).toNat)
  case atStart => exact ⟨_, 0, [], Nat.zero_le _, rfl, rfl, HEE, HO0, HBB0⟩
  case round =>
   clear HO0 HBB0
   obtain ⟨v, j, M, hj, rfl, rfl, HR, HO, HB⟩ := hrel
   obtain ⟨w7, hw7⟩ : ∃ w7, w7 = wr := ⟨_, rfl⟩
   subst hw7
   have i1 : (0 : Int) ≤ (j : Int) := by omega
   have i3 : (f.len : Int) ≤ 1000000 := by have := HFL.out; omega
   by_cases hlt : j < f.len
   ·have i2 : (j : Int) < (f.len : Int) := by omega
    obtain ⟨g, o, c', u, d, q, hve, hcap, hS, hdr, htk, ht64, hc0, ⟨dv, hc1, hdv⟩, ⟨kv, hc2, hkv⟩⟩ := HV.out.at hlt
    injection hve with e1 e2 e3
    subst e1 e3
    have hSb : g < w1.heap.size := hS
    obtain ⟨A2, c2, rfl⟩ := hkv.shape
    have hqs : q.sz ≤ 1000000 := by have := sz_drop18 hdr; have := HFS.out; omega
    have hql : q.len ≤ 1000000 := Nat.le_trans (len_sz18 q) hqs
    have hs2 := dat_len18 2 q
    obtain ⟨s2, hs⟩ : ∃ s, s = dat18 2 q := ⟨_, rfl⟩
    obtain ⟨⟨way, we, wp⟩, hw⟩ : ∃ x, x = parseX15 s2 := ⟨_, rfl⟩
    obtain ⟨⟨na, nf⟩, hn⟩ : ∃ x, x = read18 V18 3 q := ⟨_, rfl⟩
    obtain ⟨⟨oa, of⟩, ho⟩ : ∃ x, x = read18 V18 5 q := ⟨_, rfl⟩
    obtain ⟨r, hr⟩ : ∃ r, r = u % 256 := ⟨_, rfl⟩
    obtain ⟨h, hh⟩ : ∃ h, h = r / 2 := ⟨_, rfl⟩
    have HR2 : Hid (E = (M ++ [⟨(h : Int), way, (na, nf), (oa, of)⟩]) ++ redE18 V18 (Fo.drop (j + 1) f)) := hHd (by
     rw [HR.out, redE_drop18 hdr, ← hs, ← hw, ← hn, ← ho, ← hr, ← hh]
     simp)
    have HML : Hid (M.length ≤ 1000000) := hHd (by have h1 := HK3.out; rw [HR.out, List.length_append] at h1; omega)
    have hkvW : ∀ W, Below w1.heap.size w1 W → FV DataR W (Lo W) (.slice A2 q.len c2) q := fun W hW => hkv.kept stays_R (fun g hg => hW.block g hg) (fun _ hg => Nat.lt_of_lt_of_le hg hW.size)
    have HDT : ∀ W, Below w1.heap.size w1 W → Hid (Calls Tryz.prog 35 #[.slice A2 q.len c2, .int .u64 2] W (fun r w' => r = .returned (.string (txt s2)) ∧ W = w')) := fun W hW => hHd (by rw [hs]; exact rdata18_any q 2 _ W (hkvW W hW) hql)
    have HPA : ∀ W, Hid (Calls Tryz.prog 34 #[.string (txt s2)] W (PrsN (way, we, wp) W)) := fun W => hHd (by rw [hw]; exact rparse15n_any s2 (by rw [hs]; omega) W)
    have HR3 : ∀ W, Below w1.heap.size w1 W → Hid (Calls Tryz.prog 36 #[.slice A2 q.len c2, .int .u64 3] W (PTreP1 0 (na, nf) W)) := fun W hW => hHd (by rw [hn]; exact rread18_any q 3 _ W (hkvW W hW) hqs)
    have HR5 : ∀ W, Below w1.heap.size w1 W → Hid (Calls Tryz.prog 36 #[.slice A2 q.len c2, .int .u64 5] W (PTreP1 0 (oa, of) W)) := fun W hW => hHd (by rw [ho]; exact rread18_any q 5 _ W (hkvW W hW) hqs)
    have HC0 : Hid (∀ W, Below w1.heap.size w1 W → W.cell? ⟨g, o + j * 3, none⟩ = some (.int .u64 (u : Int)) ∧ W.cell? ⟨g, o + j * 3 + 2, none⟩ = some (.slice A2 q.len c2)) := hHd (fun W hW => ⟨(hW.cell (p := ⟨g, o + j * 3, none⟩) hSb).trans hc0, (hW.cell (p := ⟨g, o + j * 3 + 2, none⟩) hSb).trans hc2⟩)
    have x1 : (u : Int) % 256 = (r : Int) := by omega
    have x2 : (u : Int).tmod 256 = (r : Int) := by rw [Int.tmod_eq_emod_of_nonneg (by omega)]; omega
    have x3 : (r : Int) / 2 = (h : Int) := by omega
    have x4 : (r : Int).tdiv 2 = (h : Int) := by rw [Int.tdiv_eq_ediv_of_nonneg (by omega)]; omega
    have x5 : IntKind.i64.wrap (h : Int) = (h : Int) := Go.IntWalk.i64_in _ (by omega)
    have x6 : IntKind.u64.wrap (r : Int) = (r : Int) := Go.IntWalk.u64_in _ (by omega)
    have x7 : IntKind.u64.wrap (h : Int) = (h : Int) := Go.IntWalk.u64_in _ (by omega)
    have z2 := (HC0.out _ HB.out).2
    have HX57 := hHd (And.intro x5 (And.intro x6 x7))
    clear hcap hdr htk ht64 hc0 hc1 hdv hc2 hkv hs hw hn ho hr hh hs2 hkvW hqs hql
    go_wp2_with fail
    refine (HDT _ HB.out).out.mono ?_
    rintro r9 w9 ⟨rfl, rfl⟩
    go_wp2_with fail
    refine (HPA _).out.mono ?_
    rintro r9 w8 ⟨wv, rfl, hwv, hb8⟩
    obtain ⟨A3, c3, rfl⟩ : ∃ A c, wv = .slice A way.length c := by obtain ⟨A, c, e, _⟩ := hwv; exact ⟨A, c, e⟩
    have HWN := hHd hwv
    have H78 := hHd hb8
    have HB8 := hHd (HB.out.trans (hb8.mono HB.out.size))
    clear hwv hb8 z2
    go_upto_region 9 with (fail)
    have HWD : Hid (Below w8.heap.size w8 w8.drew) := hHd (Below.refl _ _).drew
    have HBD := hHd (HB8.out.trans (HWD.out.mono HB8.out.size))
    refine wp_region_noPanic ?_
    refine wp_region_held_drew (S := fun _ => True) (by kernel_rfl) trivial (fun hS => ?_)
    refine held_more (S' := fun w' => Below w1.heap.size w1 w') (fun _ _ => trivial) _ _ _ _ ?_
    replace hS := HBD.out
    refine tkH 0 hS ?_
    refine tkH 1 hS ?_
    refine tkH 2 hS ?_
    refine tkH 3 hS ?_
    refine tkH 4 hS ?_
    refine tkH 5 hS ?_ (hy := fun w hSw => by have z0 := (HC0.out _ hSw).1; (go_simp <;> with_reducible rfl))
    refine tkH 6 hS ?_ (hy := fun w hSw => by have hx := HX57.out; (go_simp <;> with_reducible rfl))
    refine tkH 7 hS ?_ (hy := fun w hSw => by have hx := HX57.out; (go_simp <;> with_reducible rfl))
    refine tkH 8 hS ?_ (hy := fun w hSw => by have hx := HX57.out; (go_simp <;> with_reducible rfl))
    refine tkH 9 hS ?_
    refine tkH 10 hS ?_
    refine tkH 11 hS ?_
    refine tkH 12 hS ?_
    refine tkH 13 hS ?_
    refine tkH 14 hS ?_ (hy := fun w hSw => by have z2 := (HC0.out _ hSw).2; (go_simp <;> with_reducible rfl))
    refine tkH 16 hS ?_
    refine tkH 17 hS ?_
    refine tkH 18 hS ?_
    refine tkH 19 hS ?_
    refine tkH 20 hS ?_ (hy := fun w hSw => by have z2 := (HC0.out _ hSw).2; (go_simp <;> with_reducible rfl))
    refine rdy1 15 fun K hK => ?_
    go_simp
    refine (HR3 _ HBD.out).out.mono ?_
    intro r5 w15 hr5
    obtain ⟨A5, c5, rfl, hl5, hb5⟩ := hr5.flat
    have HL5 := hHd hl5
    have HW15 := hHd (HWD.out.trans (hb5.mono HWD.out.size))
    have HB15 := hHd (HBD.out.trans (hb5.mono HBD.out.size))
    clear hl5 hb5 hr5
    go_wp2_with fail
    refine hK.out _ _ ?sr_0 (fun hS => ?_)
    case sr_0 => (exact HB15.out)
    clear hK K
    (try simp only [Act.put, layS])
    refine rdy1 21 fun K hK => ?_
    go_simp
    refine (HR5 _ HB15.out).out.mono ?_
    intro r6 w21 hr6
    obtain ⟨A6, c6, rfl, hl6, hb6⟩ := hr6.flat
    have HL6 := hHd hl6
    have HW21 := hHd hb6
    have HB21 := hHd (HB15.out.trans (hb6.mono HB15.out.size))
    clear hl6 hb6 hr6
    go_wp2_with fail
    refine hK.out _ _ ?sr_1 (fun hS => ?_)
    case sr_1 => (exact HB21.out)
    clear hK K
    (try simp only [Act.put, layS])
    refine tkH 22 hS ?_
    refine rdy1 23 fun K hK => ?_
    have hbx : Below w21.heap.size w21 (w21.alloc (.cells #[.int .i64 (h : Int), .slice A3 way.length c3, .string (txt na.name), .string (txt na.key), .int .i64 na.kind, .int .u64 (na.num : Int), .string (txt na.text), .slice A5 nf.len c5, .string (txt oa.name), .string (txt oa.key), .int .i64 oa.kind, .int .u64 (oa.num : Int), .string (txt oa.text), .slice A6 of.len c6] 55)) := bAl
    have HBX := hHd (HB21.out.trans (hbx.mono HB21.out.size))
    have HED := hHd (ed_new18 (k := (h : Int)) HWN.out HL5.out HL6.out H78.out.size HW15.out HW21.out hbx)
    have HBL : Hid (Blk (w21.alloc (.cells #[.int .i64 (h : Int), .slice A3 way.length c3, .string (txt na.name), .string (txt na.key), .int .i64 na.kind, .int .u64 (na.num : Int), .string (txt na.text), .slice A5 nf.len c5, .string (txt oa.name), .string (txt oa.key), .int .i64 oa.kind, .int .u64 (oa.num : Int), .string (txt oa.text), .slice A6 of.len c6] 55)) w21.heap.size 55 (edC (h : Int) (.slice A3 way.length c3) na (.slice A5 nf.len c5) oa (.slice A6 of.len c6)).toArray) := hHd (Blk.new _ _ _)
    have HMR := hHd (HO.out.more ((H78.out.trans (HW15.out.mono H78.out.size)).trans ((HW21.out.trans (hbx.mono HW21.out.size)).mono (Nat.le_trans H78.out.size HW15.out.size))) HED.out)
    clear hbx
    go_simp
    refine hK.out _ _ ?sr_2 (fun hS => ?_)
    case sr_2 => (exact HBX.out)
    clear hK K
    (try simp only [Act.put, layS])
    refine rdy1 24 fun K hK => ?_
    obtain ⟨S9, hO9, hE9⟩ := HMR.out
    refine wp_append_e (.tmp 40) (.tmp 63) (by rfl) (by rfl) (by rfl) hO9 (by rfl) HBL.out hE9 (by have := HML.out; omega) HBX.out.size ?_
    intro v9 w9 hap
    have HQ9 : Hid (OwnW18 w1.heap.size w9 v9 (M ++ [⟨(h : Int), way, (na, nf), (oa, of)⟩])) := hHd ⟨S9, hap.1⟩
    have HB9 := hHd (HBX.out.trans (hap.below hO9 HBX.out.size))
    clear hap hO9 hE9
    refine hK.out _ _ ?sr_3 (fun hS => ?_)
    case sr_3 => (exact HB9.out)
    clear hK K
    (try simp only [Act.put, layS])
    refine tkH 25 hS ?_
    refine wpAnyH_done (by kernel_rfl) ?_ _
    refine NoPanic.normal ?_
    clear hS HBX HED HBL HMR HL6 HW21 HB21 HL5 HW15 HB15 HBD HWD HB8 H78 HWN HB HO HR
    go_wp2_with fail
    go_roundw
    case rel => exact ⟨v9, j + 1, _, by omega, rfl, by go_num, HR2, HQ9, HB9⟩
    case measure => simp [intOf]; omega
   ·obtain rfl : j = f.len := by omega
    have i2 : ¬ (f.len : Int) < (f.len : Int) := by omega
    have HME : Hid (E = M) := hHd (by rw [HR.out, drop_len18]; exact List.append_nil M)
    clear HR hlt
    have hev := HO.out.eds
    rw [← HME.out] at hev
    obtain ⟨A9, c9, rfl⟩ := HO.out.shape
    have HPU := hHd (rput18_any E _ w7 hev HK3.out HK1.out (fun _ => HK2.out))
    have HEV := hHd hev
    clear hev
    obtain ⟨⟨P, pe⟩, hp⟩ : ∃ x, x = putX18 leastB E := ⟨_, rfl⟩
    unfold PutP18 at HPU
    rw [← hp] at HX HPU
    simp only at HX HPU
    have tp : (txt P).toList = P := txt_toList _
    have tb : (txt b).toList = b := txt_toList _
    clear hp HO
    by_cases hpe : pe = 0
    ·have y1 : ((pe : Int) == 0) = true := by simp [hpe]
     have y2 : ((pe : Int) != 0) = false := by simp [hpe]
     by_cases hpb : P = b
     ·have y3 : (P == b) = true := beq_iff_eq.2 hpb
      have y4 : (P != b) = false := by simp [hpb]
      have HX2 : Hid (getX18 leastB V18 b = (E, 0)) := hHd (by rw [HX.out, if_neg (by simp [hpe, hpb])])
      clear hpe hpb HX
      go_wp2_with fail
      refine HPU.out.mono ?_
      rintro r9 w9 ⟨rfl, hb9⟩
      have HB9 := hHd (HB.out.trans (hb9.mono HB.out.size))
      have HEV9 := hHd (EdsV.keep HEV.out (fun g hg => hb9.block g hg) (fun g hg => Nat.lt_of_lt_of_le hg hb9.size))
      clear hb9
      go_wp2_with fail
      go_ret2
      unfold GetP18
      rw [HX2.out]
      exact ⟨_, rfl, HEV9.out, HB1.out.trans (HB9.out.mono HB1.out.size)⟩
     ·have y3 : (P == b) = false := beq_eq_false_iff_ne.2 hpb
      have y4 : (P != b) = true := by simp [hpb]
      have HX2 : Hid (getX18 leastB V18 b = ([], 11)) := hHd (by rw [HX.out, if_pos (.inr hpb)])
      clear hpe hpb HX
      go_wp2_with fail
      refine HPU.out.mono ?_
      rintro r9 w9 ⟨rfl, hb9⟩
      have HB9 := hHd (HB.out.trans (hb9.mono HB.out.size))
      clear hb9
      go_wp2_with fail
      go_ret2
      unfold GetP18
      rw [HX2.out]
      exact ⟨_, rfl, EdsV.nil _ _, HB1.out.trans (HB9.out.mono HB1.out.size)⟩
    ·have y1 : ((pe : Int) == 0) = false := by simp [hpe]
     have y2 : ((pe : Int) != 0) = true := by simp [hpe]
     have HX2 : Hid (getX18 leastB V18 b = ([], 11)) := hHd (by rw [HX.out, if_pos (.inl hpe)])
     clear hpe HX
     go_wp2_with fail
     refine HPU.out.mono ?_
     rintro r9 w9 ⟨rfl, hb9⟩
     have HB9 := hHd (HB.out.trans (hb9.mono HB.out.size))
     clear hb9
     go_wp2_with fail
     go_ret2
     unfold GetP18
     rw [HX2.out]
     exact ⟨_, rfl, EdsV.nil _ _, HB1.out.trans (HB9.out.mono HB1.out.size)⟩
end
end Go.Proofs.YtleidkpdpabkpaaGreatDoor
