/- EdvL PtvLaid -/
import Derived.Test.YtleidkpdpabkpaaGreatDoorAM30
import Derived.Test.YtleidkpdpabkpaaGreatDoorAM35
import Derived.Test.YtleidkpdpabkpaaGreatDoorAM37
import Derived.Test.YtleidkpdpabkpaaGreatDoorTie
import Derived.Test.YtleidkpdpabkpaaGreatDoorCards
import Derived.ProofKit
import Derived.Deep.DeepHandedRow
import Derived.Lib.LaidTab
import Derived.Lay
set_option linter.unusedSimpArgs false
set_option linter.unusedVariables false
set_option maxRecDepth 100000
set_option maxHeartbeats 8000000
namespace Go.Proofs.YtleidkpdpabkpaaGreatDoor
open Go.RowKit
section
attribute [local go_sem] Oper.semAt_some
theorem dev_ok18 : ∀ f : Fo, (∀ e ∈ redE18 V18 f, OkE18 e) → ∀ e ∈ devE18 f, OkE18 e := by
 intro f
 induction f with
 | nil => intro _ e he; simp [devE18] at he
 | cons t d k r _ ih =>
  intro h e he
  simp only [devE18, List.mem_cons] at he
  simp only [redE18, List.mem_cons, forall_eq_or_imp] at h
  rcases he with rfl | he
  ·obtain ⟨h1, h2, h3, h4, h5, h6⟩ := h.1
   exact ⟨h1, h2, h3, h4, h5, h6⟩
  ·exact ih h.2 e he
theorem dev_len18 : ∀ f : Fo, (devE18 f).length = f.len := by
 intro f
 induction f with
 | nil => rfl
 | cons t d k r _ ih => simp only [devE18, List.length_cons, Fo.len, ih]
def OwnN18 (base : Nat) (w : World) (v : Value) (l : List EdD) : Prop := ∃ S, (∀ g, S g → base ≤ g) ∧ OwnE base S w v l
theorem OwnN18.more {base : Nat} {w w' : World} {v : Value} {l : List EdD} {cs : List Value} {e : EdD} (h : OwnN18 base w v l) (hw : base ≤ w.heap.size) (hb : Below w.heap.size w w') (he : EdS (fun g => w.heap.size ≤ g ∧ g < w'.heap.size) w' cs e) :
  ∃ S, (∀ g, S g → base ≤ g) ∧ OwnE base S w' v l ∧ EdS S w' cs e := by
 obtain ⟨S, h1, h2⟩ := h
 have h3 := h2.below hb
 refine ⟨fun g => S g ∨ (w.heap.size ≤ g ∧ g < w'.heap.size), fun g hg => hg.elim (h1 g) (fun h => Nat.le_trans hw h.1), h3.widen (fun g hg => .inl hg) (fun g hg => ?_), EdS.keep he (fun _ _ => rfl) (fun g hg => .inr hg)⟩
 rcases hg with hg | hg
 ·exact h3.1 g hg
 ·exact ⟨hg.2, fun e => by have := (h2.lt g e.symm).2; have := hg.1; omega⟩
theorem OwnN18.eds {base : Nat} {w : World} {v : Value} {l : List EdD} (h : OwnN18 base w v l) : EdsV (fun g => base ≤ g ∧ g < w.heap.size) w v l := by
 obtain ⟨S, h1, h2⟩ := h
 exact EdsV.keep h2.eds (fun _ _ => rfl) (fun g hg => hg.elim (fun h => ⟨h1 g h, (h2.1 g h).1⟩) (fun h => h2.lt g h))
def EsOP18 (f : Fo) (w : World) (r : Ending) (w' : World) : Prop := (exE18 f = true ∧ (devE18 f).all okE18 = true ∧ ∃ A c, r = .returned (.slice A (devE18 f).length c) ∧ EdsV (fun g => w.heap.size ≤ g ∧ g < w'.heap.size) w' (.slice A (devE18 f).length c) (devE18 f) ∧ Below w.heap.size w w') ∨ (¬ (exE18 f = true ∧ (devE18 f).all okE18 = true) ∧ r = .panicked inv18 ∧ Below w.heap.size w w')
theorem editsof_any18 (f : Fo) (A : Option Addr) (c : Nat) (w : World) (hv : FV DataI w (Lo w) (.slice A f.len c) f) (hsz : f.sz ≤ 100000) : Calls Tryz.prog 30 #[.slice A f.len c] w (EsOP18 f w) := by
 have hfl := Nat.le_trans (len_sz18 f) hsz
 have HOK : Hid (∀ e ∈ devE18 f, OkE18 e) := hHd (dev_ok18 f (redE_ok18 f (by omega)).1)
 have HR : ∀ b W, Hid (Calls Tryz.prog 61 #[.bool b] W (ReqP b W)) := fun b W => hHd (require_any b W)
 have HV := hHd hv
 have HSZ := hHd hsz
 have HFL := hHd hfl
 have HO0 : Hid (OwnN18 w.heap.size w (.slice none 0 0) []) := hHd ⟨fun _ => False, fun _ h => h.elim, OwnE.nil _ _ (fun _ h => h.elim)⟩
 have HB0 : Hid (Below w.heap.size w w) := hHd (Below.refl _ _)
 clear hv hsz hfl
 go_enter Tryz.func30, Tryz.ntmps30
 go_wp2
 go_loopw [3, 8] (fun u i wr => ∃ (v : Value) (j : Nat) (M : List EdD), j ≤ f.len ∧ v = u ∧ i = .int .i64 (j : Int) ∧ Hid (devE18 f = M ++ devE18 (Fo.drop j f)) ∧ Hid (exE18 f = exE18 (Fo.drop j f)) ∧ Hid (OwnN18 w.heap.size wr v M) ∧ Hid (Below w.heap.size w wr)) (fun _ i _ => f.len - (intOf i).toNat)
 case atStart => exact ⟨_, 0, [], Nat.zero_le _, rfl, rfl, hHd rfl, hHd rfl, HO0, HB0⟩
 case round =>
  clear HO0 HB0
  obtain ⟨v, j, M, hj, rfl, rfl, HD, HX, HO, HB⟩ := hrel
  obtain ⟨w7, hw7⟩ : ∃ w7, w7 = wr := ⟨_, rfl⟩
  subst hw7
  have i1 : (0 : Int) ≤ (j : Int) := by omega
  have i3 : (f.len : Int) ≤ 1000000 := by have := HFL.out; omega
  by_cases hlt : j < f.len
  ·have i2 : (j : Int) < (f.len : Int) := by omega
   obtain ⟨g, o, c', t, d, q, hve, hcap, hS, hdr, htk, ht64, hc0, ⟨dv, hc1, hdv⟩, ⟨kv, hc2, hkv⟩⟩ := HV.out.at hlt
   injection hve with e1 e2 e3
   subst e1 e3
   have hSb : g < w.heap.size := hS
   obtain ⟨A2, c2, rfl⟩ := hkv.shape
   obtain ⟨dA, dc, rfl⟩ : ∃ A c, dv = .slice A d.length c := by obtain ⟨_, ⟨A, c, e, _⟩, _⟩ := hdv; exact ⟨A, c, e⟩
   have hqs : q.sz ≤ 1000000 := by have := sz_drop18 hdr; have := HSZ.out; omega
   have HD2 : Hid (devE18 f = (M ++ [devO18 t q]) ++ devE18 (Fo.drop (j + 1) f)) := hHd (by rw [HD.out, hdr]; simp [devE18])
   have HX2 : Hid (exE18 f = (exO18 t q && exE18 (Fo.drop (j + 1) f))) := hHd (by rw [HX.out, hdr]; rfl)
   have HML : Hid (M.length ≤ 1000000) := hHd (by have h1 := dev_len18 f; rw [HD.out, List.length_append] at h1; have := HFL.out; omega)
   obtain ⟨dn, hdn⟩ : ∃ n, n = d.length := ⟨_, rfl⟩
   rw [← hdn] at hc1
   have hb8 : Below w7.heap.size w7 (w7.alloc (.cells #[.int .u64 (t : Int), .slice dA dn dc, .slice A2 q.len c2] 58)) := bAl
   have HB8 : Hid (Below w.heap.size w (w7.alloc (.cells #[.int .u64 (t : Int), .slice dA dn dc, .slice A2 q.len c2] 58))) := hHd (HB.out.trans (hb8.mono HB.out.size))
   have hed := editof_any18 t ht64 dA dn dc A2 c2 q (w7.alloc (.cells #[.int .u64 (t : Int), .slice dA dn dc, .slice A2 q.len c2] 58)) (hkv.kept stays_I (fun g hg => HB8.out.block g hg) (fun _ hg => Nat.lt_of_lt_of_le hg HB8.out.size)) hqs
   have HO8 : Hid (OwnN18 w.heap.size (w7.alloc (.cells #[.int .u64 (t : Int), .slice dA dn dc, .slice A2 q.len c2] 58)) v M) := hHd (by obtain ⟨S, h1, h⟩ := HO.out; exact ⟨S, h1, h.below hb8⟩)
   have p0 : w7.cell? ⟨g, o + j * 3, none⟩ = some (.int .u64 (t : Int)) := (HB.out.cell (p := ⟨g, o + j * 3, none⟩) hSb).trans hc0
   have p1 : w7.cell? ⟨g, o + j * 3 + 1, none⟩ = some (.slice dA dn dc) := (HB.out.cell (p := ⟨g, o + j * 3 + 1, none⟩) hSb).trans hc1
   have p2 : w7.cell? ⟨g, o + j * 3 + 2, none⟩ = some (.slice A2 q.len c2) := (HB.out.cell (p := ⟨g, o + j * 3 + 2, none⟩) hSb).trans hc2
   obtain ⟨qn, hqn⟩ : ∃ n, n = q.len := ⟨_, rfl⟩
   clear hcap hdr htk ht64 hc0 hc1 hdv hc2 hkv hb8 hqs hdn hS hSb HO HX HD hqn
   cases hx : exO18 t q with
   | false =>
    have HED : Hid (Calls Tryz.prog 60 #[.agg #[.int .u64 (t : Int), .slice dA dn dc, .slice A2 q.len c2]] (w7.alloc (.cells #[.int .u64 (t : Int), .slice dA dn dc, .slice A2 q.len c2] 58)) (fun r w' => r = .panicked inv18 ∧ Below (w7.alloc (.cells #[.int .u64 (t : Int), .slice dA dn dc, .slice A2 q.len c2] 58)).heap.size (w7.alloc (.cells #[.int .u64 (t : Int), .slice dA dn dc, .slice A2 q.len c2] 58)) w')) := hHd (hed.mono fun r w' h => by
     rcases h with ⟨h1, -⟩ | ⟨-, h2⟩
     ·rw [hx] at h1; cases h1
     ·exact h2)
    have HN : Hid (¬ (exE18 f = true ∧ (devE18 f).all okE18 = true)) := hHd (fun h => by have h1 := h.1; rw [HX2.out, hx] at h1; cases h1)
    clear hx hed
    go_wp2_with fail
    refine HED.out.mono ?_
    rintro e w9 ⟨rfl, hb⟩
    have HBB := hHd (HB8.out.trans (hb.mono HB8.out.size))
    clear hb
    go_wp2
    exact ⟨rfl, .inr ⟨HN.out, rfl, HBB.out⟩⟩
   | true =>
    obtain ⟨⟨ek, el, ⟨ea, ef⟩, ⟨ga, gf⟩⟩, hee⟩ : ∃ e, e = devO18 t q := ⟨_, rfl⟩
    have HED : Hid (Calls Tryz.prog 60 #[.agg #[.int .u64 (t : Int), .slice dA dn dc, .slice A2 q.len c2]] (w7.alloc (.cells #[.int .u64 (t : Int), .slice dA dn dc, .slice A2 q.len c2] 58)) (fun r w' => ∃ A3 c3 A4 c4 A5 c5, r = .returned (.agg (edC ek (.slice A3 el.length c3) ea (.slice A4 ef.len c4) ga (.slice A5 gf.len c5)).toArray) ∧ EdS (fun g => (w7.alloc (.cells #[.int .u64 (t : Int), .slice dA dn dc, .slice A2 q.len c2] 58)).heap.size ≤ g ∧ g < w'.heap.size) w' (edC ek (.slice A3 el.length c3) ea (.slice A4 ef.len c4) ga (.slice A5 gf.len c5)) ⟨ek, el, (ea, ef), (ga, gf)⟩ ∧ Below (w7.alloc (.cells #[.int .u64 (t : Int), .slice dA dn dc, .slice A2 q.len c2] 58)).heap.size (w7.alloc (.cells #[.int .u64 (t : Int), .slice dA dn dc, .slice A2 q.len c2] 58)) w')) := hHd (hed.mono fun r w' h => by
     rcases h with ⟨-, wv, pv, ov, h1, h2, h3⟩ | ⟨h1, -⟩
     ·rw [← hee] at h1 h2
      obtain ⟨wv', pv', ov', h4, h5, h6, h7⟩ := id h2
      simp only [edC, List.cons.injEq, true_and, and_true] at h4
      obtain ⟨rfl, rfl, rfl⟩ := h4
      obtain ⟨A3, c3, rfl⟩ : ∃ A c, wv = .slice A el.length c := by obtain ⟨A, c, e, _⟩ := h5; exact ⟨A, c, e⟩
      obtain ⟨A4, c4, rfl⟩ := (show RowS _ w' pv ef from h6).shape
      obtain ⟨A5, c5, rfl⟩ := (show RowS _ w' ov gf from h7).shape
      exact ⟨A3, c3, A4, c4, A5, c5, h1, h2, h3⟩
     ·rw [hx] at h1; cases h1)
    rw [← hee] at HD2
    have HX3 : Hid (exE18 f = exE18 (Fo.drop (j + 1) f)) := hHd (by rw [HX2.out, hx]; rfl)
    clear hx hed hee HX2
    go_wp2_with fail
    refine HED.out.mono ?_
    rintro e w9 ⟨A3, c3, A4, c4, A5, c5, rfl, hE9, hb9⟩
    have hb10 : Below w9.heap.size w9 (w9.alloc (.cells #[.int .i64 ek, .slice A3 el.length c3, .string (txt ea.name), .string (txt ea.key), .int .i64 ea.kind, .int .u64 (ea.num : Int), .string (txt ea.text), .slice A4 ef.len c4, .string (txt ga.name), .string (txt ga.key), .int .i64 ga.kind, .int .u64 (ga.num : Int), .string (txt ga.text), .slice A5 gf.len c5] 55)) := bAl
    have HBL : Hid (Blk (w9.alloc (.cells #[.int .i64 ek, .slice A3 el.length c3, .string (txt ea.name), .string (txt ea.key), .int .i64 ea.kind, .int .u64 (ea.num : Int), .string (txt ea.text), .slice A4 ef.len c4, .string (txt ga.name), .string (txt ga.key), .int .i64 ga.kind, .int .u64 (ga.num : Int), .string (txt ga.text), .slice A5 gf.len c5] 55)) w9.heap.size 55 (edC ek (.slice A3 el.length c3) ea (.slice A4 ef.len c4) ga (.slice A5 gf.len c5)).toArray) := hHd (Blk.new _ _ _)
    have HMR := hHd (HO8.out.more HB8.out.size (hb9.trans (hb10.mono hb9.size)) (hE9.keep (fun g hg => hb10.block g hg.2) (fun g hg => ⟨hg.1, Nat.lt_of_lt_of_le hg.2 hb10.size⟩)))
    have HBA : Hid (Below w.heap.size w (w9.alloc (.cells #[.int .i64 ek, .slice A3 el.length c3, .string (txt ea.name), .string (txt ea.key), .int .i64 ea.kind, .int .u64 (ea.num : Int), .string (txt ea.text), .slice A4 ef.len c4, .string (txt ga.name), .string (txt ga.key), .int .i64 ga.kind, .int .u64 (ga.num : Int), .string (txt ga.text), .slice A5 gf.len c5] 55))) := hHd (HB8.out.trans ((hb9.trans (hb10.mono hb9.size)).mono HB8.out.size))
    clear hE9 hb9 hb10 p0 p1 p2 HED HO8 HB8
    obtain ⟨S9, hS9, hO9, hE9⟩ := HMR.out
    go_wp2_with (at_builtin; refine wpList_append_e rfl (.tmp 12) (.tmp 15) rfl rfl rfl hO9 rfl HBL.out hE9 (by have := HML.out; omega) HBA.out.size ?_)
    intro v9 w11 hap
    have HQ9 : Hid (OwnN18 w.heap.size w11 v9 (M ++ [⟨ek, el, (ea, ef), (ga, gf)⟩])) := hHd ⟨S9, hS9, hap.1⟩
    have HB9 := hHd (HBA.out.trans (hap.below hO9 HBA.out.size))
    clear hap hO9 hE9 hS9 HBL HMR HBA
    go_wp2_with fail
    go_roundw
    case rel => exact ⟨v9, j + 1, _, by omega, rfl, by go_num, HD2, HX3, HQ9, HB9⟩
    case measure => simp [intOf]; omega
  ·obtain rfl : j = f.len := by omega
   have i2 : ¬ (f.len : Int) < (f.len : Int) := by omega
   have HME : Hid (devE18 f = M) := hHd (by rw [HD.out, drop_len18]; exact List.append_nil M)
   have HXE : Hid (exE18 f = true) := hHd (by rw [HX.out, drop_len18]; rfl)
   clear HD HX hlt
   have hev := HO.out.eds
   obtain ⟨A9, c9, rfl⟩ : ∃ A c, v = .slice A M.length c := by obtain ⟨S, _, h⟩ := HO.out; exact h.shape
   rw [← HME.out] at hev
   rw [← HME.out]
   obtain ⟨b, hb⟩ : ∃ b, b = (devE18 f).all okE18 := ⟨_, rfl⟩
   have hck := check_any18 (devE18 f) _ w7 (EdsV.keep hev (fun _ _ => rfl) (fun g hg => hg.2)) (by rw [dev_len18]; have := HFL.out; omega) HOK.out
   rw [← hb] at hck
   have HCK := hHd hck
   have HEV := hHd hev
   have HBB := hHd hb
   clear hck hev hb HO
   cases b with
   | false =>
    have HNX : Hid (¬ (exE18 f = true ∧ (devE18 f).all okE18 = true)) := hHd (fun h => by have h2 := h.2; rw [← HBB.out] at h2; cases h2)
    go_wp2_with fail
    refine HCK.out.mono ?_
    rintro e w8 ⟨rfl, hb8⟩
    have HB8 := hHd (HB.out.trans (hb8.mono HB.out.size))
    clear hb8
    go_wp2_with fail
    refine (HR false _).out.mono ?_
    rintro e w9 ⟨h1, rfl⟩
    obtain rfl : e = .panicked inv18 := by simpa using h1
    clear h1
    go_wp2
    exact ⟨rfl, .inr ⟨HNX.out, rfl, HB8.out⟩⟩
   | true =>
    go_wp2_with fail
    refine HCK.out.mono ?_
    rintro e w8 ⟨rfl, hb8⟩
    have HB8 := hHd (HB.out.trans (hb8.mono HB.out.size))
    have HE8 : Hid (EdsV (fun g => w.heap.size ≤ g ∧ g < w8.heap.size) w8 (.slice A9 (devE18 f).length c9) (devE18 f)) := hHd (EdsV.keep HEV.out (fun g hg => hb8.block g hg.2) (fun g hg => ⟨hg.1, Nat.lt_of_lt_of_le hg.2 hb8.size⟩))
    clear hb8
    go_wp2_with fail
    refine (HR true _).out.mono ?_
    rintro e w9 ⟨h1, rfl⟩
    obtain rfl : e = .returned (.tuple #[]) := by simpa using h1
    clear h1
    go_wp2
    go_ret
    exact .inl ⟨HXE.out, HBB.out.symm, A9, c9, rfl, HE8.out, HB8.out⟩
theorem assert_inv18 (w : World) : (Instr.typeAssert (.iface 68 (.agg #[])) 20 68 true).run Tryz.prog w = .ok (.tuple #[.agg #[], .bool true]) w := by kernel_rfl
def inv18R : List PanicEntry := [{ v := .iface 68 (.agg #[]), recovered := true }]
def CatchG18 (a : Nat) (w : World) (r : Ending) (u : FrameMode) (w' : World) : Prop := r = .returned (.tuple #[]) ∧ u = .panicking inv18R ∧ Blk w' a 26 #[.int .i64 11] ∧ Below a w w'
theorem catchg_panics18 (a : Nat) (e : Int) (w : World) (h3 : Blk w a 26 #[.int .i64 e]) :
  CallsD Tryz.prog 29 #[.pointer (some ⟨a, 0, none⟩)] (.panicking inv18) w (CatchG18 a w) := by
 refine callsD_of_wpS Tryz.func29 rfl fun c₀ cs hu => ?_
 unfold inv18 at hu
 have hta := assert_inv18
 have hfr : (#[Value.pointer (some ⟨a, 0, none⟩)] ++ Array.replicate (Tryz.f29.ntmps - (#[Value.pointer (some ⟨a, 0, none⟩)] : Array Value).size) undef) = #[Value.pointer (some ⟨a, 0, none⟩), undef, undef, undef, undef, undef, undef, undef, undef, undef, undef, undef, undef, undef, undef] := rfl
 rw [hfr]
 clear hfr
 apply wpS_seq
 apply wpS_region
 simp [wpOpsS, go_sem, recoverD, hu, Exit.thenS]
 refine wpS_of_wp ?_
 have ha := h3.lt
 have e0 : (w.alloc (.cells #[] 68)).cell? ⟨a, 0, none⟩ = some (.int .i64 e) := ((h3.alloc _).cell 0).trans rfl
 have f0 := (h3.alloc (.cells #[] 68)).frozen 0
 have HP : Hid (∀ W', W' = (w.alloc (.cells #[] 68)).setCell ⟨a, 0, none⟩ (.int .i64 11) → CatchG18 a w (.returned (.tuple #[])) (.panicking inv18R) W') := hHd (fun W' h => by
  subst h
  have hx := (h3.alloc (.cells #[] 68)).set_ 0 (.int .i64 11)
  simp only [List.setIfInBounds_toArray, List.set_cons_zero] at hx
  exact ⟨rfl, rfl, hx, ((Below.refl a w).alloc (Nat.le_of_lt ha) _).setCell (p := ⟨a, 0, none⟩) (Nat.le_refl a) _⟩)
 clear h3 ha
 go_wp2
 exact ⟨rfl, .panicking inv18R, rfl, _, results_none rfl _ _ _, HP.out _ rfl⟩
theorem catchg_idle18 (a : Nat) (w : World) :
  CallsD Tryz.prog 29 #[.pointer (some ⟨a, 0, none⟩)] .returning w fun e u' w' => e = .returned (.tuple #[]) ∧ u' = .returning ∧ w' = w := by
 refine callsD_of_wpS Tryz.func29 rfl fun c₀ cs hu => ?_
 have hfr : (#[Value.pointer (some ⟨a, 0, none⟩)] ++ Array.replicate (Tryz.f29.ntmps - (#[Value.pointer (some ⟨a, 0, none⟩)] : Array Value).size) undef) = #[Value.pointer (some ⟨a, 0, none⟩), undef, undef, undef, undef, undef, undef, undef, undef, undef, undef, undef, undef, undef, undef] := rfl
 rw [hfr]
 clear hfr
 apply wpS_seq
 apply wpS_region
 simp [wpOpsS, go_sem, recoverD, hu, Exit.thenS]
 refine wpS_of_wp ?_
 go_wp2
 exact ⟨rfl, .returning, by rw [← hu], _, results_none rfl _ _ _, rfl, rfl, rfl⟩
theorem resG18 {tmps : Array Value} {W : World} {a : Nat} {v : Value} {e : Int} (h2 : tmps.getD 2 undef = v) (h3 : tmps.getD 3 undef = .pointer (some ⟨a, 0, none⟩)) (p : Blk W a 26 #[.int .i64 e]) :
  (results Tryz.f13 tmps).run Tryz.prog W = .ok (.tuple #[v, .int .i64 e]) W := by
 have e0 := p.cell 0
 have g2 : tmps[2]?.getD undef = v := by simpa using h2
 have g3 : tmps[3]?.getD undef = .pointer (some ⟨a, 0, none⟩) := by simpa using h3
 simp [results, Tryz.f13, go_sem, g2, g3, e0]
theorem get_any18 (s : List UInt8) (b : Value) (d : Nat) (w : World) (hr : Rd w d b s) (hs : s.length ≤ 9000) : Calls Tryz.prog 13 #[b] w (GetP18 s w) := by
 have hmf : ∀ (fn : Fn) (first cap : Array Value) (w : World), (Instr.makeFunc fn first cap).run Tryz.prog w = .ok (.func fn first cap) w := fun _ _ _ _ => rfl
 obtain ⟨A, c, rfl⟩ : ∃ A c, b = .slice A s.length c := by obtain ⟨A, c, e, _⟩ := hr; exact ⟨A, c, e⟩
 have hb1 : Below w.heap.size w (w.alloc (.cells #[.int .i64 0] 26)) := bAl
 have hg := getC s (w.alloc (.cells #[.int .i64 0] 26)) d _ (hr.below' hb1) (by omega)
 obtain ⟨⟨f, e, p⟩, hf⟩ : ∃ x, x = gotOf s := ⟨_, rfl⟩
 rw [← hf] at hg
 have hfg : got18 s = (f, e, p) := hf.symm
 have HG := hHd hg
 have HB1 := hHd hb1
 have HE1 : Hid (Blk (w.alloc (.cells #[.int .i64 0] 26)) w.heap.size 26 #[.int .i64 0]) := hHd (Blk.new _ _ _)
 have HZ1 : Hid ((w.alloc (.cells #[.int .i64 0] 26)).heap.size = w.heap.size + 1) := hHd (by simp)
 by_cases he : e = 0
 rotate_left
 ·have e1 : (e == 0) = false := beq_eq_false_iff_ne.2 he
  have e2 : (e != 0) = true := by simp [he]
  have HX : Hid (getX18 leastB V18 s = ([], e)) := hHd (by unfold getX18; rw [hfg, if_pos he])
  clear hg hf hfg he hs hr hb1
  go_enter_defers Tryz.func13, Tryz.ntmps13
  go_wp2_with fail
  refine HG.out.mono ?_
  rintro r w2 ⟨v, rfl, -, hb2⟩
  have hE2 := HE1.out.below hb2 HE1.out.lt
  have z0 := hE2.frozen 0
  have y0 := (hE2.cell 0).trans rfl
  have hE3 := hE2.set_ 0 (.int .i64 e)
  simp only [List.setIfInBounds_toArray, List.set_cons_zero] at hE3
  have HE3 := hHd hE3
  have HB3 := hHd ((HB1.out.trans (hb2.mono HB1.out.size)).setCell (p := ⟨w.heap.size, 0, none⟩) (Nat.le_refl _) (.int .i64 e))
  clear hb2 hE2 hE3 HG HB1 HE1
  go_upto_region 3 with (fail)
  clear z0 y0
  revert HE3 HB3
  generalize (w2.setCell ⟨w.heap.size, 0, none⟩ (.int .i64 e)) = w3
  intro HE3 HB3
  have z0 := HE3.out.frozen 0
  have y0 := (HE3.out.cell 0).trans rfl
  have hx4 := Blk.set_ HE3.out 0 (.int .i64 e)
  simp only [List.setIfInBounds_toArray, List.set_cons_zero] at hx4
  have HE4 : Hid (Blk (w3.setCell ⟨w.heap.size, 0, none⟩ (.int .i64 e)).drew w.heap.size 26 #[.int .i64 e]) := hHd hx4
  have HB4 := hHd (HB3.out.setCell (p := ⟨w.heap.size, 0, none⟩) (Nat.le_refl _) (.int .i64 e)).drew
  clear hx4
  go_region
  all_goals go_wp2
  all_goals exact ⟨_, resG18 rfl rfl HE4.out, by unfold GetP18; rw [HX.out]; exact ⟨_, rfl, EdsV.nil _ _, HB4.out⟩⟩
 ·subst he
  have hsz := got_sz18 (by rw [hfg]) (by omega : s.length ≤ 100000)
  rw [hfg] at hsz
  simp only at hsz
  have hgd := get_dev18 (b := s) (by rw [hfg]) (by omega)
  rw [hfg] at hgd
  simp only at hgd
  have HGD := hHd hgd
  have HFS : Hid (f.sz ≤ 100000) := hHd (by omega)
  clear hg hf hfg hs hr hb1 hsz hgd
  go_enter_defers Tryz.func13, Tryz.ntmps13
  go_wp2_with fail
  refine HG.out.mono ?_
  rintro r w2 ⟨v, rfl, hfv, hb2⟩
  obtain ⟨A2, c2, rfl⟩ := hfv.shape
  have hE2 := HE1.out.below hb2 HE1.out.lt
  have z0 := hE2.frozen 0
  have y0 := (hE2.cell 0).trans rfl
  have hE3 := hE2.set_ 0 (.int .i64 0)
  simp only [List.setIfInBounds_toArray, List.set_cons_zero] at hE3
  have HE3 := hHd hE3
  have HB3 := hHd ((HB1.out.trans (hb2.mono HB1.out.size)).setCell (p := ⟨w.heap.size, 0, none⟩) (Nat.le_refl _) (.int .i64 0))
  have HES : Hid (Calls Tryz.prog 30 #[.slice A2 f.len c2] (w2.setCell ⟨w.heap.size, 0, none⟩ (.int .i64 0)) (EsOP18 f (w2.setCell ⟨w.heap.size, 0, none⟩ (.int .i64 0)))) := hHd (editsof_any18 f A2 c2 _ (hfv.kept stays_I (fun g hg => Below.heap_setCell _ _ _ _ (by have := hg.1; have := HZ1.out; show g ≠ w.heap.size; omega)) (fun g hg => by have h9 := hg.2; show g < (World.setCell _ _ _).heap.size; simpa [World.setCell] using h9)) HFS.out)
  clear hb2 hE2 hE3 HG HB1 HE1 hfv
  go_upto_region 4 with (fail)
  clear z0 y0
  revert HE3 HB3 HES
  generalize (w2.setCell ⟨w.heap.size, 0, none⟩ (.int .i64 0)) = w3
  intro HE3 HB3 HES
  by_cases hx : exE18 f = true ∧ (devE18 f).all okE18 = true
  ·have HX : Hid (getX18 leastB V18 s = (devE18 f, 0)) := hHd (by rw [HGD.out, if_pos hx])
   have HE5 : Hid (Calls Tryz.prog 30 #[.slice A2 f.len c2] w3 (fun r w' => ∃ A c, r = .returned (.slice A (devE18 f).length c) ∧ EdsV (fun g => w3.heap.size ≤ g ∧ g < w'.heap.size) w' (.slice A (devE18 f).length c) (devE18 f) ∧ Below w3.heap.size w3 w')) := hHd (HES.out.mono fun r w' h => by
    rcases h with ⟨-, -, h⟩ | ⟨h, -⟩
    ·exact h
    ·exact absurd hx h)
   clear hx HES HGD
   go_wp2_with fail
   refine HE5.out.mono ?_
   rintro r w4 ⟨A9, c9, rfl, hev, hb4⟩
   have hE4 := HE3.out.below hb4 HE3.out.lt
   have z0 := hE4.frozen 0
   have y0 := (hE4.cell 0).trans rfl
   have hx5 := hE4.set_ 0 (.int .i64 0)
   simp only [List.setIfInBounds_toArray, List.set_cons_zero] at hx5
   have HE6 := hHd hx5
   have HB6 := hHd ((HB3.out.trans (hb4.mono HB3.out.size)).setCell (p := ⟨w.heap.size, 0, none⟩) (Nat.le_refl _) (.int .i64 0))
   have HEV : Hid (EdsV (Bel (w4.setCell ⟨w.heap.size, 0, none⟩ (.int .i64 0))) (w4.setCell ⟨w.heap.size, 0, none⟩ (.int .i64 0)) (.slice A9 (devE18 f).length c9) (devE18 f)) := hHd (hev.keep (fun g hg => Below.heap_setCell _ _ _ _ (by have := hg.1; have := HE3.out.lt; show g ≠ w.heap.size; omega)) (fun g hg => by have h9 := hg.2; show g < (World.setCell _ _ _).heap.size; simpa [World.setCell] using h9))
   have HZE : Hid (w.heap.size < w3.heap.size) := hHd HE3.out.lt
   clear hE4 hx5 hb4 hev HE3 HB3 HE5
   go_wp2
   refine leaves_cons (f := 29) (args := #[.pointer (some ⟨w.heap.size, 0, none⟩)]) (by simp) (by simp [go_sem]) ?_
   refine (catchg_idle18 w.heap.size _).mono ?_
   rintro e u' w'' ⟨rfl, rfl, rfl⟩
   exact ⟨_, resG18 rfl rfl HE6.out, by unfold GetP18; rw [HX.out]; exact ⟨_, rfl, HEV.out, HB6.out⟩⟩
  ·have HX : Hid (getX18 leastB V18 s = ([], 11)) := hHd (by rw [HGD.out, if_neg hx])
   have HE5 : Hid (Calls Tryz.prog 30 #[.slice A2 f.len c2] w3 (fun r w' => r = .panicked inv18 ∧ Below w3.heap.size w3 w')) := hHd (HES.out.mono fun r w' h => by
    rcases h with ⟨h1, h2, -⟩ | ⟨-, h⟩
    ·exact absurd ⟨h1, h2⟩ hx
    ·exact h)
   clear hx HES HGD
   go_wp2_with fail
   refine HE5.out.mono ?_
   rintro r w4 ⟨rfl, hb4⟩
   have HE4 := hHd (HE3.out.below hb4 HE3.out.lt)
   have HB4 := hHd (HB3.out.trans (hb4.mono HB3.out.size))
   clear hb4 HE3 HB3 HE5
   go_wp2
   refine leaves_cons (f := 29) (args := #[.pointer (some ⟨w.heap.size, 0, none⟩)]) (by simp) (by simp [go_sem]) ?_
   refine (catchg_panics18 w.heap.size _ _ HE4.out).mono ?_
   rintro e u' w'' ⟨rfl, rfl, hE5, hB5⟩
   exact ⟨_, resG18 rfl rfl hE5, by unfold GetP18; rw [HX.out]; exact ⟨_, rfl, EdsV.nil _ _, HB4.out.trans hB5⟩⟩
theorem edtC (W0 : World) : EdtC W0 where
 check := fun l v w hv hl _ => check_any18 l v w hv hl.1 hl.2.1
 put := fun l v w hv hl _ => put_any18 l v w hv hl
 get := fun s b d w hr hs _ => get_any18 s b d w hr hs
end
def laidL : List (String × DataW Unit) := [("unicode/utf8.acceptRanges", Rows.laid_unicode_utf8_acceptRanges), ("unicode/utf8.first", Rows.laid_unicode_utf8_first)]
noncomputable def laidWorld (os : Os) : World := World.laidAll Tryz.prog os laidL
theorem laid_os (os : Os) : (laidWorld os).os = os := World.laidAll_os _ _ _
theorem laid_all (os : Os) (args : Array Value) : laidMet Tryz.prog laidL ((laidWorld os).forCall (fun _ _ => 0) ⟨#[], args, []⟩).memory :=
 laidMet_laidAll args (by kernel_rfl) (by kernel_rfl)
end Go.Proofs.YtleidkpdpabkpaaGreatDoor
