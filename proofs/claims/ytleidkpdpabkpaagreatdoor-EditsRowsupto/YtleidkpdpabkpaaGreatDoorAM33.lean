/- VarA VarB TlvFnC TlvSpec TlvFnD -/
import Derived.Shelf.RegionOpen
import Derived.OwnWalkIn
import Derived.LoopNIn
import Derived.LoopIn
import Derived.Test.YtleidkpdpabkpaaGreatDoorAM32
import Derived.Laws.EntriesVeiled
set_option linter.unusedSimpArgs false
set_option linter.unusedVariables false
set_option maxRecDepth 100000
set_option maxHeartbeats 8000000
namespace Go.Proofs.YtleidkpdpabkpaaGreatDoor
open Go.RowKit
section
open Go.RowKit Go.Shelf
attribute [local go_sem] Oper.semAt_some
def grp : Nat → Nat → List UInt8
 | 0, x => [UInt8.ofNat (x % 128)]
 | f + 1, x => if x < 128 then [UInt8.ofNat (x % 128)] else UInt8.ofNat (x % 128) :: grp f (x / 128)
theorem grp_small (f x : Nat) (h : x < 128) : grp f x = [UInt8.ofNat (x % 128)] := by cases f <;> simp [grp, h]
theorem grp_big (f x : Nat) (h : ¬ x < 128) : grp (f + 1) x = UInt8.ofNat (x % 128) :: grp f (x / 128) := by simp [grp, h]
theorem grp_length (f x : Nat) : (grp f x).length = (encV f x).length := by
 induction f generalizing x with
 | zero => simp [grp, encV]
 | succ f ih =>
  by_cases h : x < 128
  ·rw [grp_small _ _ h, encV_small _ _ h]; simp
  ·rw [grp_big f x h, encV_big f x h, List.length_cons, List.length_cons, ih]
def lessLast (l : List UInt8) : List UInt8 := l.modify (l.length - 1) (fun c => c - 128)
theorem lessLast_cons (b : UInt8) (l : List UInt8) (h : l ≠ []) : lessLast (b :: l) = b :: lessLast l := by
 unfold lessLast
 cases l with
 | nil => exact absurd rfl h
 | cons c l => simp
theorem enc_grp (f : Nat) : ∀ x, x < 128 ^ (f + 1) → encV f x = lessLast ((grp f x).map (fun c => c + 128)) := by
 induction f with
 | zero =>
  intro x h
  have hx : x < 128 := by simpa using h
  rw [encV_small 0 x hx, grp_small 0 x hx]
  simp [lessLast, Nat.mod_eq_of_lt hx]
 | succ f ih =>
  intro x h
  by_cases hx : x < 128
  ·rw [encV_small _ x hx, grp_small _ x hx]
   simp [lessLast, Nat.mod_eq_of_lt hx]
  ·rw [encV_big f x hx, grp_big f x hx, List.map_cons, lessLast_cons _ _ (by
    have := (encV_length f (x / 128)).1
    rw [← grp_length] at this
    intro e
    rw [List.map_eq_nil_iff] at e
    rw [e] at this
    simp at this), ← ih (x / 128) (by rw [Nat.pow_succ] at h; omega)]
   congr 1
   apply UInt8.toNat_inj.1
   simp
theorem groups1_in (F : Fence) (n : Nat) (h6 : F.fn 106) (hro : F.round = none) (hn : 1 ≤ n) (l Bn n₀ : Nat) (x : Nat) (hx : x < 18446744073709551616) (J Jx : List UInt8 → World → Prop)
  (hY : ∀ pre c W, J pre W → pre.length < 10 → YieldAt F (n - 1) Tryz.prog l #[byteV c] W fun e W' =>
   (e = .returned (.bool true) ∧ J (pre ++ [c]) W' ∧ Below n₀ W W') ∨ (e = .returned (.bool false) ∧ Jx (pre ++ [c]) W'))
  (W : World) (hBn : W.cell? ⟨Bn, 0, none⟩ = some (.int .u64 (x : Int))) (h0 : J [] W) :
  CallsIn F n Tryz.prog 106 #[.func (.yield l) #[] #[], .pointer (some ⟨Bn, 0, none⟩)] W fun e W' => (∃ v, e = .returned v) ∧
   ((∃ ys, ys = grp 9 x ∧ J ys W') ∨ (∃ pre, pre <+: grp 9 x ∧ Jx pre W')) := by
 refine callsIn_of_wp Tryz.func106 rfl h6 ?_ hro
 simp only [Tryz.ntmps106, List.size_toArray, List.length_cons, List.length_nil, Nat.reduceAdd, Nat.reduceSub, Array.replicate_succ, Array.replicate_zero, List.push_toArray, List.append_toArray, List.nil_append, List.cons_append]
 have h10 : x < 128 ^ (9 + 1) := by
  have : (18446744073709551616 : Nat) < 128 ^ (9 + 1) := by decide
  omega
 have hlen := (encV_length 9 x).2
 rw [← grp_length] at hlen
 obtain ⟨G, hG⟩ : ∃ G, G = grp 9 x := ⟨_, rfl⟩
 rw [← hG] at hlen ⊢
 have HG := hHd hG
 clear hG
 gi_wp2
 gi_loopw [3] (fun r wr => ∃ (pre : List UInt8) (f y : Nat), r = .int .u64 (y : Int) ∧ y < 18446744073709551616 ∧ Hid (y < 128 ^ (f + 1)) ∧ Hid (G = pre ++ grp f y) ∧ J pre wr)
  (fun r _ => (intOf r).toNat)
 case atStart =>
  exact ⟨[], 9, x, rfl, hx, hHd h10, hHd HG.out, h0⟩
 case round =>
  obtain ⟨pre, f, y, rfl, hy64, HY, HP, hJs⟩ := hrel
  obtain ⟨q, hq⟩ : ∃ q, q = y % 128 := ⟨_, rfl⟩
  have hqI : (y : Int) % 128 = (q : Int) := by omega
  have hq128 : q < 128 := by omega
  have hpl : pre.length < 10 := by
   have h := congrArg List.length HP.out
   rw [List.length_append] at h
   have h1 := (encV_length f y).1
   rw [← grp_length] at h1
   omega
  obtain ⟨fn, tmps, assign, body, hy, hR⟩ := hY pre (UInt8.ofNat q) wr hJs hpl
  have hbq : byteV (UInt8.ofNat q) = .int .u8 (q : Int) := by unfold byteV; rw [ofNat_toNat]; congr 1; omega
  rw [hbq] at hy
  have HQ := hHd hq
  clear hq hbq hpl
  gi_wp2
  refine hR.mono ?_
  rintro e W3 (⟨rfl, hJ3, hk3⟩ | ⟨rfl, hJx3⟩)
  ·by_cases hlt : y < 128
   ·have hE : G = pre ++ [UInt8.ofNat q] := by
     rw [HQ.out]
     have h := HP.out
     rw [grp_small f y hlt] at h
     exact h
    have HE := hHd hE
    have hz : ((y : Int) / 128 == 0) = true := by
     have : (y : Int) / 128 = 0 := by omega
     rw [this]; rfl
    clear hE
    gi_wp2
    refine bodyPost_ret (results_none rfl _ _ _) rfl ?_
    exact ⟨⟨_, rfl⟩, .inl ⟨_, HE.out.symm, hJ3⟩⟩
   ·obtain ⟨f, rfl⟩ : ∃ f', f = f' + 1 := by
     cases f with
     | zero => exfalso; have h := HY.out; simp at h; omega
     | succ f => exact ⟨f, rfl⟩
    obtain ⟨z, hz⟩ : ∃ z, z = y / 128 := ⟨_, rfl⟩
    have hzI : (y : Int) / 128 = (z : Int) := by omega
    have hz0 : ((z : Int) == 0) = false := beq_eq_false_iff_ne.2 (by omega)
    have HN1 : Hid (z < 128 ^ (f + 1)) := hHd (by have h := HY.out; rw [Nat.pow_succ] at h; omega)
    have HN2 : Hid (G = (pre ++ [UInt8.ofNat q]) ++ grp f z) := hHd (by
     have h := HP.out
     rw [grp_big f y hlt] at h
     rw [h, HQ.out, hz]
     simp)
    have hzy : z < y := by omega
    clear hz
    gi_wp2
    go_roundw
    case rel => exact ⟨pre ++ [UInt8.ofNat q], f, z, rfl, by omega, HN1, HN2, hJ3⟩
    case measure => simp [intOf]; omega
  ·gi_wp2
   go_end0
   have hpre : pre ++ [UInt8.ofNat q] <+: G := by
    have h := HP.out
    by_cases hlt : y < 128
    ·rw [grp_small f y hlt, ← HQ.out] at h
     rw [h]
     exact List.prefix_refl _
    ·obtain ⟨f, rfl⟩ : ∃ f', f = f' + 1 := by
      cases f with
      | zero => exfalso; have h := HY.out; simp at h; omega
      | succ f => exact ⟨f, rfl⟩
     rw [grp_big f y hlt, ← HQ.out] at h
     exact ⟨grp f (y / 128), by rw [h]; simp⟩
   exact ⟨⟨_, rfl⟩, .inr ⟨_, hpre, hJx3⟩⟩
theorem groups_in (F : Fence) (n : Nat) (h5 : F.fn 81) (hro : F.round = none) (x : Int) (w : World) :
  CallsIn F n Tryz.prog 81 #[.int .u64 x] w fun e w' => e = .returned (.func (.func 106) #[] #[.pointer (some ⟨w.heap.size, 0, none⟩)]) ∧ w' = w.alloc (.cells #[.int .u64 x] 37) := by
 refine callsIn_of_wp Tryz.func81 rfl h5 ?_ hro
 simp only [Tryz.ntmps81, List.size_toArray, List.length_cons, List.length_nil, Nat.reduceAdd, Nat.reduceSub, Array.replicate_succ, Array.replicate_zero, List.push_toArray, List.append_toArray, List.nil_append, List.cons_append]
 gi_wp2
 go_ret
 exact ⟨rfl, rfl⟩
theorem groups_stops (F : Fence) (n : Nat) (h6 : F.fn 106) (hro : F.round = none) (hn : 1 ≤ n) (Bn n₀ : Nat) (x : Nat) (hx : x < 18446744073709551616) (w : World) (hBn : Bn < w.heap.size)
  (hc : w.cell? ⟨Bn, 0, none⟩ = some (.int .u64 (x : Int))) :
  SeqStopsK F n Tryz.prog 106 #[.pointer (some ⟨Bn, 0, none⟩)] (fun c : UInt8 => #[byteV c]) (Below n₀) (fun ys => ys = grp 9 x) (fun pre => pre <+: grp 9 x) 10 w := fun l J Jx W hW _ _ hY h0 =>
 groups1_in F n h6 hro hn l Bn n₀ x hx J Jx hY W ((hW.cell (p := ⟨Bn, 0, none⟩) hBn).trans hc) h0
end
section
open Go.RowKit Go.Shelf
attribute [local go_sem] Oper.semAt_some
def up (l : List UInt8) : List UInt8 := l.map fun c => c + 128
theorem up_snoc (l : List UInt8) (c : UInt8) : up (l ++ [c]) = up l ++ [c + 128] := by simp [up]
theorem byteV_up (c : UInt8) : byteV (c + 128) = .int .u8 (IntKind.u8.wrap ((c.toNat : Int) + 128)) := by
 unfold byteV
 rw [UInt8.toNat_add, IntKind.wrap_u8]
 congr 1
theorem Own.last {w : World} {base g k cap : Nat} {l : List UInt8} (h : Own w base (.slice (some ⟨g, 0, none⟩) k cap) l) (hk : l.length = k) (h0 : 0 < k) (hk47 : k ≤ 140737488355328) :
  (∃ c, l[k - 1]? = some c ∧ w.cell? ⟨g, k - 1, none⟩ = some (byteV c)) ∧ w.frozen? ⟨g, k - 1, none⟩ = false ∧ base ≤ g ∧
   ∀ u : UInt8, Own (w.setCell ⟨g, k - 1, none⟩ (byteV u)) base (.slice (some ⟨g, 0, none⟩) k cap) (l.modify (k - 1) (fun _ => u)) := by
 subst hk
 have hh := h
 have hst := fun u : UInt8 => (World.ownsRow.stored h (l.length - 1) (byteV u)).1
 obtain ⟨_, h2⟩ := h
 rcases h2 with ⟨hv, _⟩ | ⟨g', cap', cur, hv, hb, hg, hnc, hcm, hs, ht⟩
 ·cases hv
 ·injection hv with e1 e2 e3
  injection e1 with e1
  injection e1 with e1
  subst e1 e3
  clear e2
  have hcell : ∀ j b, l[j]? = some b → w.cell? ⟨g, j, none⟩ = some (byteV b) := fun j b hj => by
   have hjl : j < l.length := (List.getElem?_eq_some_iff.1 hj).1
   have := World.ownsRow.cellAt hh (0 + j) (by omega)
   simp only [Nat.zero_add] at this
   rw [this]
   simp [hj]
  have hlast : ∃ c, l[l.length - 1]? = some c := ⟨_, List.getElem?_eq_getElem (by omega)⟩
  obtain ⟨c, hc⟩ := hlast
  refine ⟨⟨c, hc, hcell _ _ hc⟩, by simp [World.frozen?, hg], hb, fun u => ?_⟩
  have e : (l.modify (l.length - 1) (fun _ => u)).map byteV = (l.map byteV).set (l.length - 1) (byteV u) := by
   rw [← List.map_set]
   congr 1
   apply List.ext_getElem?
   intro j
   rw [List.getElem?_modify, List.getElem?_set]
   by_cases hj : l.length - 1 = j
   ·subst hj
    rw [hc]
    simp
    omega
   ·simp [hj]
  unfold Own
  rw [e, List.length_modify]
  exact hst u
def PutOwn (x : Nat) (w : World) (r : Ending) (w' : World) : Prop :=
 ∃ v, r = .returned v ∧ Own w' w.heap.size v (encV 9 x) ∧ Below w.heap.size w w'
def PutPost (x : Nat) (w : World) (r : Ending) (w' : World) : Prop :=
 ∃ v d, r = .returned v ∧ Rd w' d v (encV 9 x) ∧ w.heap.size ≤ d ∧ Below w.heap.size w w'
theorem put_in (F : Fence) (n : Nat) (h3 : F.fn 49) (h4 : F.fn 81) (h5 : F.fn 106) (hro : F.round = none) (hn : 3 ≤ n) (x : Nat) (hx : x < 18446744073709551616) (w : World) :
  CallsIn F n Tryz.prog 49 #[.int .u64 (x : Int)] w (PutOwn x w) := by
 have h1 : 1 ≤ n := by omega
 obtain ⟨i0, hi, hz0, hz1, hz2⟩ := info_parts Tryz.cells22o
 refine callsIn_of_wp_marks Tryz.func49 rfl h3 ?_ hro
 simp only [Tryz.ntmps49, List.size_toArray, List.length_cons, List.length_nil, Nat.reduceAdd, Nat.reduceSub, Array.replicate_succ, Array.replicate_zero, List.push_toArray, List.append_toArray, List.nil_append, List.cons_append]
 gi_wp2_with (gi_at_call 81; refine (groups_in F (n - 1) h4 hro _ _).mono ?_; rintro e w' ⟨rfl, rfl⟩)
 have bO := Boxed.new w 25 (.slice none 0 0)
 have bN := Boxed.new (w.alloc (.cells #[.slice none 0 0] 25)) 37 (.int .u64 (x : Int))
 rw [World.size_alloc] at bN
 have hB0 : Below w.heap.size w ((w.alloc (.cells #[.slice none 0 0] 25)).alloc (.cells #[.int .u64 (x : Int)] 37)) := ((Below.refl _ w).alloc (Nat.le_refl _) _).alloc (by simp) _
 have hlen := (encV_length 9 x).2
 have hpos := (encV_length 9 x).1
 rw [← grp_length] at hlen hpos
 have HE := hHd (enc_grp 9 x (by
  have : (18446744073709551616 : Nat) < 128 ^ (9 + 1) := by decide
  omega))
 refine wpIn_rangeFunc_ownG hro h1 (gf := 106) (lb := #[.pointer (some ⟨w.heap.size + 1, 0, none⟩)]) rfl h5 (enters_of Tryz.func106 (by kernel_rfl) rfl)
  (groups_stops F (n - 1) h5 hro (by omega) (w.heap.size + 1) w.heap.size x hx _ (by simp) bN.cell) belowK_t (belowK_b (by simp; omega)) (Below.refl _ _) (fun _ => rfl)
  (fun pre W => (∃ v, Boxed W w.heap.size 25 v ∧ W.ownsRow w.heap.size 5 1 v (up pre).length ((up pre).map byteV) ∧ True) ∧ Below w.heap.size w W)
  (fun _ _ _ => False)
  (OwnFrom.and (Own.from (holdsRow_own w.heap.size w.heap.size 25 5 1 (fun pre => (up pre).length) (fun pre => (up pre).map byteV) (fun _ _ => True)) _) (ownFrom_below (Nat.le_refl _) (by simp; omega)))
  (fun _ _ _ _ _ hs _ _ => hs)
  ⟨⟨_, bO.alloc _, World.ownsRow_nil _ _ _ _, trivial⟩, hB0⟩
  (fun c => { tmps := #[.int .u64 (x : Int), undef, .slice none 0 0, .pointer (some ⟨w.heap.size, 0, none⟩), byteV c, .int .u64 (x : Int), .func (.func 106) #[] #[.pointer (some ⟨w.heap.size + 1, 0, none⟩)], byteV c, undef, undef, undef, undef, undef, undef, undef, undef, undef, undef, undef, undef, undef, undef], defers := [] }) ?assign ?body ?done ?stop
 case assign =>
  intro l c W K hK
  gi_wp2
  exact hK
 case body =>
  rintro l pre c W ⟨⟨v, hv, hrow, -⟩, hB⟩ hlt
  have hc := hv.cell
  have hpl : (up pre).length = pre.length := by simp [up]
  have hrow' : W.ownsRow w.heap.size 5 1 v pre.length ((up pre).map byteV) := by rw [← hpl]; exact hrow
  have HL := hHd hpl
  clear hpl hrow
  obtain ⟨u, hu⟩ : ∃ u : Int, byteV c = .int .u8 u := ⟨_, rfl⟩
  have hcu : IntKind.u8.wrap (u + 128) = ((c + 128).toNat : Int) := by
   have h := byteV_up c
   have hu' : u = (c.toNat : Int) := by unfold byteV at hu; injection hu with _ hu; exact hu.symm
   unfold byteV at h
   injection h with _ h
   rw [hu', h]
  rw [hu]
  have HC := hHd hcu
  clear hcu hu
  gi_wp2_with (gi_at_builtin; refine wpListIn_append_own _ rfl _ _ 25 rfl w.heap.size 5 i0 (.int .u8 0) 1 1 Tryz.underlying25 hi hz0 hz1 hz2 rfl (by decide) _ _ _ rfl (hrow'.alloc _) ⟨W.heap.size, 0, none⟩ 1 1 [.int .u8 (IntKind.u8.wrap (u + 128))] rfl rfl (cell_one_new _ _ _) (by simp [Value.oneCell']) (by unfold maxLen; omega) (by omega) (by have := hB.size; simp; omega) ?_; intro v' w1 hown' hgrow _; obtain ⟨g', cap', rfl⟩ := ownsRow_succ hown'; obtain ⟨hv1, hv2, hr2, hk2, hb2⟩ := hv.appended (by decide) hrow' hB.size (Nat.le_refl _) hown' hgrow; have hc1 := hv1.cell; have hf1 := hv1.frozen)
  refine ⟨hk2.from _, hb2, ⟨_, hv2, ?_, trivial⟩, hB.trans hb2⟩
  have hl1 : (up (pre ++ [c])).length = pre.length + 1 := by rw [up_snoc, List.length_append, HL.out]; rfl
  have hl2 : (up (pre ++ [c])).map byteV = (up pre).map byteV ++ [.int .u8 (IntKind.u8.wrap (u + 128))] := by
   rw [up_snoc, List.map_append, HC.out]; rfl
  rw [hl1, hl2]
  exact hr2
 case done =>
  rintro D ys W hD hys ⟨⟨v, hv, hrow, -⟩, hB⟩ hK
  have hup : (up ys).length = (grp 9 x).length := by rw [hys]; simp [up]
  obtain ⟨k, hk⟩ : ∃ k, k = (up ys).length := ⟨_, rfl⟩
  have hown : Own W w.heap.size v (up ys) := hrow
  rw [← hk] at hrow
  obtain ⟨k', rfl⟩ : ∃ k', k = k' + 1 := ⟨k - 1, by omega⟩
  obtain ⟨g, cap, rfl⟩ := ownsRow_succ hrow
  obtain ⟨⟨c, hcl, hcell⟩, hfz, hbg, hset⟩ := hown.last hk.symm (by omega) (by omega)
  have hc := hv.cell
  have hcu : IntKind.u8.wrap ((c.toNat : Int) - 128) = ((c - 128).toNat : Int) := by
   rw [IntKind.wrap_u8, UInt8.toNat_sub]
   have := UInt8.toNat_lt c
   show _ = ((((256 - 128 + c.toNat) % 256 : Nat)) : Int)
   omega
  have hE : encV 9 x = (up ys).modify (k' + 1 - 1) (fun _ => c - 128) := by
   rw [HE.out]
   show (up (grp 9 x)).modify ((up (grp 9 x)).length - 1) _ = _
   rw [← hys, hk]
   apply List.ext_getElem?
   intro j
   rw [List.getElem?_modify, List.getElem?_modify]
   by_cases hj : (up ys).length - 1 = j
   ·rw [← hj]
    rw [hk] at hcl
    rw [hcl]
    simp
   ·simp [hj]
  have HE2 := hHd hE
  have HS := hHd hset
  have HCU := hHd hcu
  have hkn : ((k' : Int) + 1 - 1) = (k' : Int) := by omega
  have hle : k' ≤ 10 := by omega
  have hne : w.heap.size ≠ g := fun e => hv.not_row (by decide) hrow (by rw [e]; rfl)
  have hfar : ∀ u, (W.setCell ⟨g, k', none⟩ u).cell? ⟨w.heap.size, 0, none⟩ = some (.slice (some ⟨g, 0, none⟩) (k' + 1) cap) := fun u => by
   rw [World.cell?_setCell_other _ _ _ _ (by intro e; injection e with e; exact hne e.symm)]
   exact hv.cell
  have hidx : k' + 1 - 1 = k' := by omega
  rw [hidx] at hcell hfz
  have HFZ : W.frozen? ⟨g, k', none⟩ = false := hfz
  have hcell' : W.cell? ⟨g, k', none⟩ = some (.int .u8 (c.toNat : Int)) := hcell
  clear hset hE hcu hcl hk hup hys hown hrow HE hkn hidx hcell
  gi_wp2
  have hst : Value.int .u8 (((c.toNat : Int) - 128) % 256) = byteV (c - 128) := by
   have h := HCU.out
   rw [IntKind.wrap_u8] at h
   unfold byteV
   rw [← h]
  refine ⟨by simp, .inl ⟨_, _, rfl, run_takeDeferred ((KeepsOthers.setCell _ _ _).same D _ hK rfl), ?_⟩⟩
  refine ⟨_, results_tmp rfl _ _ _, ?_⟩
  have hrd := HS.out (c - 128)
  rw [← HE2.out, Nat.add_sub_cancel, ← hst] at hrd
  have hbK := belowK_b (w := w) (n₀ := w.heap.size) (Nat.le_refl _) (W.setCell ⟨g, k', none⟩ (.int .u8 (((c.toNat : Int) - 128) % 256))) D _ (.deferred none) (by simp at hD; omega) ((KeepsOthers.setCell _ _ _).same D _ hK rfl) rfl rfl
  have hB2 := (hB.setCell (p := ⟨g, k', none⟩) hbg (.int .u8 (((c.toNat : Int) - 128) % 256))).trans hbK
  refine ⟨_, rfl, ?_, hB2⟩
  refine World.ownsRow.kept hrd (grownBy_putObj' _ D (.deferred none)) (.inr ?_)
  intro e
  injection e with e
  subst e
  simp [World.cell?, hK] at hcell'
 case stop =>
  rintro D c pre W _ _ h _
  exact h.elim
theorem put_own (x : Nat) (hx : x < 18446744073709551616) (w : World) : Calls Tryz.prog 49 #[.int .u64 (x : Int)] w (PutOwn x w) :=
 (callsIn_wide (n := 5)).1 (put_in Fence.wide 5 trivial trivial trivial rfl (by omega) x hx w)
theorem put_any (x : Nat) (hx : x < 18446744073709551616) (w : World) : Calls Tryz.prog 49 #[.int .u64 (x : Int)] w (PutPost x w) :=
 (put_own x hx w).mono fun r w' ⟨v, hr, ho, hb⟩ => by
  have hl := (encV_length 9 x).2
  obtain ⟨d, hd, -, hrd⟩ := ho.rd (by omega)
  exact ⟨v, d, hr, hrd, hd, hb⟩
def LenPost (x : Nat) (w : World) (r : Ending) (w' : World) : Prop := r = .returned (.int .i64 ((encV 9 x).length : Int)) ∧ Below w.heap.size w w'
theorem len_in (F : Fence) (n : Nat) (h3 : F.fn 105) (h4 : F.fn 81) (h5 : F.fn 106) (hro : F.round = none) (hn : 3 ≤ n) (x : Nat) (hx : x < 18446744073709551616) (w : World) :
  CallsIn F n Tryz.prog 105 #[.int .u64 (x : Int)] w (LenPost x w) := by
 have h1 : 1 ≤ n := by omega
 refine callsIn_of_wp_marks Tryz.func105 rfl h3 ?_ hro
 simp only [Tryz.ntmps105, List.size_toArray, List.length_cons, List.length_nil, Nat.reduceAdd, Nat.reduceSub, Array.replicate_succ, Array.replicate_zero, List.push_toArray, List.append_toArray, List.nil_append, List.cons_append]
 gi_wp2_with (gi_at_call 81; refine (groups_in F (n - 1) h4 hro _ _).mono ?_; rintro e w' ⟨rfl, rfl⟩)
 have bO := Boxed.new w 3 (.int .i64 0)
 have bN := Boxed.new (w.alloc (.cells #[.int .i64 0] 3)) 37 (.int .u64 (x : Int))
 rw [World.size_alloc] at bN
 have hB0 : Below w.heap.size w ((w.alloc (.cells #[.int .i64 0] 3)).alloc (.cells #[.int .u64 (x : Int)] 37)) := ((Below.refl _ w).alloc (Nat.le_refl _) _).alloc (by simp) _
 have HE := hHd (grp_length 9 x)
 refine wpIn_rangeFunc_ownG hro h1 (gf := 106) (lb := #[.pointer (some ⟨w.heap.size + 1, 0, none⟩)]) rfl h5 (enters_of Tryz.func106 (by kernel_rfl) rfl)
  (groups_stops F (n - 1) h5 hro (by omega) (w.heap.size + 1) w.heap.size x hx _ (by simp) bN.cell) belowK_t (belowK_b (by simp; omega)) (Below.refl _ _) (fun _ => rfl)
  (fun pre W => Boxed W w.heap.size 3 (.int .i64 (pre.length : Int)) ∧ Below w.heap.size w W)
  (fun _ _ _ => False)
  (OwnFrom.and (Own.from (boxed_own _ _ _) _) (ownFrom_below (Nat.le_refl _) (by simp; omega)))
  (fun _ _ _ _ _ hs _ _ => hs)
  ⟨bO.alloc _, hB0⟩
  (fun c => { tmps := #[.int .u64 (x : Int), undef, .int .i64 0, .pointer (some ⟨w.heap.size, 0, none⟩), .int .u64 (x : Int), .func (.func 106) #[] #[.pointer (some ⟨w.heap.size + 1, 0, none⟩)], byteV c, undef, undef, undef], defers := [] }) ?assign ?body ?done ?stop
 case assign =>
  intro l c W K hK
  gi_wp2
  simpa using hK
 case body =>
  rintro l pre c W ⟨hv, hB⟩ hlt
  have hc := hv.cell
  have hf := hv.frozen
  obtain ⟨k, hk⟩ : ∃ k, k = pre.length := ⟨_, rfl⟩
  rw [← hk] at hc hlt
  have HK := hHd hk
  clear hk
  gi_wp2
  refine ⟨(KeepsOthers.setCell _ _ _).from _, (Below.refl w.heap.size W).setCell (p := ⟨w.heap.size, 0, none⟩) (Nat.le_refl _) _, ?_, hB.setCell (p := ⟨w.heap.size, 0, none⟩) (Nat.le_refl _) _⟩
  have hl : ((pre ++ [c]).length : Int) = (k : Int) + 1 := by rw [List.length_append, ← HK.out]; simp
  rw [hl]
  exact hv.set _
 case done =>
  rintro D ys W hD hys ⟨hv, hB⟩ hK
  have hc := hv.cell
  have hl : ys.length = (encV 9 x).length := by rw [hys, HE.out]
  rw [hl] at hc
  clear hys hl HE
  gi_wp2
  refine ⟨by simp, .inl ⟨_, _, rfl, run_takeDeferred hK, ?_⟩⟩
  exact ⟨_, results_tmp rfl _ _ _, rfl, hB.trans (belowK_b (w := w) (Nat.le_refl _) W D _ _ (by simp at hD; omega) hK rfl rfl)⟩
 case stop =>
  rintro D c pre W _ _ h _
  exact h.elim
theorem len_any (x : Nat) (hx : x < 18446744073709551616) (w : World) : Calls Tryz.prog 105 #[.int .u64 (x : Int)] w (LenPost x w) :=
 (callsIn_wide (n := 5)).1 (len_in Fence.wide 5 trivial trivial trivial rfl (by omega) x hx w)
end
def SelfS (w : World) (sb cb : Nat) : Prop := Blk w sb 153 #[.func (.func 104) #[] #[.pointer (some ⟨cb, 0, none⟩), .pointer (some ⟨sb, 0, none⟩)]]
def SizeP (f : Fo) (c0 cb : Nat) (w : World) (r : Ending) (w' : World) : Prop :=
 r = .returned (.int .i64 (f.all.length : Int)) ∧ w.grownBy w' (some cb) ∧ ∃ q, q ≤ c0 + f.cnt ∧ Blk w' cb 3 #[.int .i64 (q : Int)]
def SizeAt (k : Fo) : Prop := ∀ (w : World) (v : Value) (B cb sb deep c0 : Nat) (dI : Int), FV DataI w (Lt B) v k → k.sz ≤ 1099511627776 → deep + k.cnt ≤ 65537 → c0 + k.cnt ≤ 100000 → dI = (deep : Int) → B ≤ cb → B ≤ sb → B ≤ w.heap.size → cb ≠ sb →
  Blk w cb 3 #[.int .i64 (c0 : Int)] → SelfS w sb cb →
  Calls Tryz.prog 104 #[v, .int .i64 dI, .pointer (some ⟨cb, 0, none⟩), .pointer (some ⟨sb, 0, none⟩)] w (SizeP k c0 cb w)
theorem len_at (x : Nat) (xI : Int) (L : Nat) (w : World) (h : x < 18446744073709551616) (e : xI = (x : Int)) (hL : L = (encV 9 x).length) :
  Calls Tryz.prog 105 #[.int .u64 xI] w fun r w' => r = .returned (.int .i64 (L : Int)) ∧ Below w.heap.size w w' := by
 subst e hL
 exact len_any x h w
theorem size1_any (f : Fo) : SizeAt f := by
 refine Fo.byKids (P := SizeAt) ?_ f
 clear f
 intro f hkids w v B cb sb deep c0 dI hv hsz hd hc0 hdI hBc hBs hBw hne hblk hself
 subst hdI
 obtain ⟨A, c, rfl⟩ := hv.shape
 have hws := f.wt_le_sz
 have hlw := f.len_le_wt
 have hal := f.all_le
 have hlen40 : f.len ≤ 1099511627776 := by omega
 have hall : f.all.length ≤ 22000000000000 := by omega
 have HK : Hid (Fo.kidsAll SizeAt f) := hHd hkids
 clear hkids hws hlw hal
 go_enter Tryz.func104, Tryz.ntmps104
 go_wp2
 go_loopw [7, 13] (fun u i wr => ∃ (j q S : Nat), j ≤ f.len ∧ i = .int .i64 (j : Int) ∧ u = .int .i64 (S : Int) ∧ S ≤ 22000000000000 ∧ q ≤ 100000 ∧ Hid (q ≤ c0 + (Fo.take j f).cnt) ∧ Hid (S = (Fo.take j f).all.length) ∧ Hid (Blk wr cb 3 #[.int .i64 (q : Int)]) ∧ Hid (w.grownBy wr (some cb))) (fun _ i _ => f.len - (intOf i).toNat)
 case atStart => exact ⟨0, c0, 0, Nat.zero_le _, rfl, rfl, by omega, by omega, hHd (Nat.le_refl _), hHd rfl, hHd hblk, hHd (World.grownBy.refl _ _)⟩
 case round =>
  obtain ⟨j, q, S, hj, rfl, rfl, hS13, hq4, HQ, HS, HB, HG⟩ := hrel
  by_cases hlt : j < f.len
  ·obtain ⟨b, o, c', t, d, k, hve, hcap, hS, hdr, htk, ht64, hk0, ⟨dv, hk1, db, hdv, hdS⟩, ⟨kv, hk2, hkv⟩⟩ := hv.at hlt
   injection hve with e1 e2 e3
   subst e1 e3
   have hSb : b < B := hS
   obtain ⟨A1, c1, rfl⟩ : ∃ D cd, dv = .slice D d.length cd := by obtain ⟨D, cd, e, _⟩ := hdv; exact ⟨D, cd, e⟩
   have hdl := hdv.len
   obtain ⟨A2, c2, rfl⟩ := hkv.shape
   have hG := HG.out
   have hne0 : b ≠ cb := by omega
   have hcw := hblk.lt
   have z1 := hG.size
   have hC0 : wr.cell? ⟨b, o + j * 3, none⟩ = some (.int .u64 (t : Int)) := hG.cell hk0 (by simpa using hne0)
   have hC1 : wr.cell? ⟨b, o + j * 3 + 1, none⟩ = some (.slice A1 d.length c1) := hG.cell hk1 (by simpa using hne0)
   have hC2 : wr.cell? ⟨b, o + j * 3 + 2, none⟩ = some (.slice A2 k.len c2) := hG.cell hk2 (by simpa using hne0)
   have hdrop : (Fo.drop j f).sz ≤ f.sz := by
    have h := Fo.sz_app (Fo.take j f) (Fo.drop j f)
    rw [Fo.take_app_drop] at h
    omega
   rw [hdr] at hdrop
   simp only [Fo.sz] at hdrop
   have hIH : SizeAt k := by
    have h := Fo.kidsAll_drop j HK.out
    rw [hdr] at h
    exact h.1
   have hks40 : k.sz ≤ 1099511627776 := by omega
   have hct : (Fo.take (j + 1) f).cnt = (Fo.take j f).cnt + (1 + k.cnt) := by rw [htk, Fo.cnt_app]; simp [Fo.cnt]
   have hcl := Fo.cnt_take_le (j + 1) f
   have hcq : q + 1 + k.cnt ≤ c0 + f.cnt := by have := HQ.out; omega
   have hck : k.cnt + 1 ≤ f.cnt := by omega
   have i1 : (0 : Int) ≤ (j : Int) := by omega
   have i2 : (j : Int) < (f.len : Int) := by omega
   obtain ⟨I, hI⟩ : ∃ I, I = (Fo.inn t d k.all).length := ⟨_, rfl⟩
   obtain ⟨L1, hL1⟩ : ∃ L1, L1 = (encV 9 t).length := ⟨_, rfl⟩
   obtain ⟨L2, hL2⟩ : ∃ L2, L2 = (encV 9 I).length := ⟨_, rfl⟩
   obtain ⟨S', hS'⟩ : ∃ S', S' = S + (L1 + L2 + I) := ⟨_, rfl⟩
   have hSt : S' = (Fo.take (j + 1) f).all.length := by rw [Fo.all_take j htk, hS', HS.out, hL1, hL2, hI]; simp only [List.length_append]
   have hSl : S' ≤ f.all.length := by rw [hSt]; exact Fo.all_take_le _ _
   have hI13 : I ≤ 22000000000000 := by omega
   have hL13 : L1 ≤ 22000000000000 := by omega
   have hL23 : L2 ≤ 22000000000000 := by omega
   have hS13' : S' ≤ 22000000000000 := by omega
   have hI64 : I < 18446744073709551616 := by omega
   have HKV := hHd hkv
   have HIH := hHd hIH
   have HCT := hHd hct
   have HNE := hHd hne
   have HT64 := hHd ht64
   have HI64 := hHd hI64
   have HL1 := hHd hL1
   have HL2 := hHd hL2
   have HS' := hHd hS'
   have HST := hHd hSt
   have hbc := HB.out.cell 0
   have hcc : (wr.alloc (.cells #[.int .u64 (t : Int), .slice A1 d.length c1, .slice A2 k.len c2] 58)).cell? ⟨cb, 0, none⟩ = some (.int .i64 (q : Int)) := by rw [(HB.out.alloc _).cell]; rfl
   have hcf : (wr.alloc (.cells #[.int .u64 (t : Int), .slice A1 d.length c1, .slice A2 k.len c2] 58)).frozen? ⟨cb, 0, none⟩ = false := (HB.out.alloc _).frozen 0
   have HBA : Hid (Blk ((wr.alloc (.cells #[.int .u64 (t : Int), .slice A1 d.length c1, .slice A2 k.len c2] 58)).setCell ⟨cb, 0, none⟩ (.int .i64 ((q : Int) + 1))) cb 3 #[.int .i64 ((q : Int) + 1)]) := hHd ((HB.out.alloc _).set_ 0 _)
   have HGA : Hid (w.grownBy ((wr.alloc (.cells #[.int .u64 (t : Int), .slice A1 d.length c1, .slice A2 k.len c2] 58)).setCell ⟨cb, 0, none⟩ (.int .i64 ((q : Int) + 1))) (some cb)) := hHd ((grown_alloc hG _).trans (grown_set _))
   have HIA : Hid (Blk ((wr.alloc (.cells #[.int .u64 (t : Int), .slice A1 d.length c1, .slice A2 k.len c2] 58)).setCell ⟨cb, 0, none⟩ (.int .i64 ((q : Int) + 1))) wr.heap.size 58 #[.int .u64 (t : Int), .slice A1 d.length c1, .slice A2 k.len c2]) := hHd ((Blk.new wr _ _).far (by show wr.heap.size ≠ cb; omega) _)
   have hd1 : decide ((2147483647 : Int) < (q : Int) + 1) = false := decide_eq_false (by omega)
   have hd2 : decide ((65536 : Int) < (deep : Int)) = false := decide_eq_false (by omega)
   have x1 : ((wr.alloc (.cells #[.int .u64 (t : Int), .slice A1 d.length c1, .slice A2 k.len c2] 58)).setCell ⟨cb, 0, none⟩ (.int .i64 ((q : Int) + 1))).cell? ⟨cb, 0, none⟩ = some (.int .i64 ((q : Int) + 1)) := by rw [HBA.out.cell]; rfl
   have y0 : ((wr.alloc (.cells #[.int .u64 (t : Int), .slice A1 d.length c1, .slice A2 k.len c2] 58)).setCell ⟨cb, 0, none⟩ (.int .i64 ((q : Int) + 1))).cell? ⟨wr.heap.size, 0, none⟩ = some (.int .u64 (t : Int)) := by rw [HIA.out.cell]; rfl
   have y1 : ((wr.alloc (.cells #[.int .u64 (t : Int), .slice A1 d.length c1, .slice A2 k.len c2] 58)).setCell ⟨cb, 0, none⟩ (.int .i64 ((q : Int) + 1))).cell? ⟨wr.heap.size, 1, none⟩ = some (.slice A1 d.length c1) := by rw [HIA.out.cell]; rfl
   have y2 : ((wr.alloc (.cells #[.int .u64 (t : Int), .slice A1 d.length c1, .slice A2 k.len c2] 58)).setCell ⟨cb, 0, none⟩ (.int .i64 ((q : Int) + 1))).cell? ⟨wr.heap.size, 2, none⟩ = some (.slice A2 k.len c2) := by rw [HIA.out.cell]; rfl
   have HI := hHd hI
   clear hIH hkv hdr htk hk0 hk1 hk2 e2 hS hdrop hsz hdv hdS ht64 hne hne0 HK hct hcl hI hL1 hL2 hS' hSt hSl hI64 hbc hG hblk
   by_cases hodd : t % 2 = 1
   ·have HIk : Hid (I = k.all.length) := hHd (by have h := HI.out; rw [h]; unfold Fo.inn; rw [if_pos hodd])
    have HC := hHd (fun w => nests_yes t (.slice A1 d.length c1) (.slice A2 k.len c2) w hodd)
    clear hodd HI
    go_wp2_with fail
    refine (HC.out _).mono ?_
    rintro r w1 ⟨rfl, hb1⟩
    have HB1 : Hid (Blk w1 cb 3 #[.int .i64 ((q + 1 : Nat) : Int)]) := hHd (HBA.out.below hb1 HBA.out.lt)
    have HI1 : Hid (Blk w1 wr.heap.size 58 #[.int .u64 (t : Int), .slice A1 d.length c1, .slice A2 k.len c2]) := hHd (HIA.out.below hb1 HIA.out.lt)
    have HG1 : Hid (w.grownBy w1 (some cb)) := hHd (grown_below HGA.out hb1)
    have z3 := HG1.out.size
    have hself1 : SelfS w1 sb cb := hself.grown HG1.out (by intro h; injection h with h; exact HNE.out h.symm)
    have hkv1 : FV DataI w1 (Lt B) (.slice A2 k.len c2) k := HKV.out.kept stays_I (fun g hg => HG1.out.block g (by have : g < B := hg; omega) (by have : g < B := hg; simp; omega)) (fun _ h => h)
    have HII := hHd (HIH.out w1 (.slice A2 k.len c2) B cb sb (deep + 1) (q + 1) ((deep : Int) + 1) hkv1 hks40 (by omega) (by omega) (by omega) hBc hBs (by omega) HNE.out HB1.out hself1)
    have s1 : w1.cell? ⟨sb, 0, none⟩ = some (.func (.func 104) #[] #[.pointer (some ⟨cb, 0, none⟩), .pointer (some ⟨sb, 0, none⟩)]) := by rw [hself1.cell]; rfl
    have v2 : w1.cell? ⟨wr.heap.size, 2, none⟩ = some (.slice A2 k.len c2) := by rw [HI1.out.cell]; rfl
    clear hb1 hself1 hkv1 hcc hcf x1 y0 y1 y2 hC0 hC1 hC2 HBA HIA HGA
    go_wp2_with fail
    refine HII.out.mono ?_
    rintro r w2 ⟨rfl, hg2, QQ, hQQ, hq2⟩
    rw [← HIk.out]
    have HBX : Hid (Blk w2 cb 3 #[.int .i64 ((QQ : Nat) : Int)]) := hHd hq2
    have HGX : Hid (w.grownBy w2 (some cb)) := hHd (HG1.out.trans hg2)
    have v0 : w2.cell? ⟨wr.heap.size, 0, none⟩ = some (.int .u64 (t : Int)) := hg2.cell (by rw [HI1.out.cell]; rfl) (by simp; omega)
    clear hg2 hq2 s1 v2 HG1 HI1 HB1
    go_wp2_with fail
    refine (len_at t _ L1 _ HT64.out rfl HL1.out).mono ?_
    rintro r w3 ⟨rfl, hb3⟩
    go_wp2_with fail
    refine (len_at I _ L2 _ HI64.out rfl HL2.out).mono ?_
    rintro r w4 ⟨rfl, hb4⟩
    have HB4 : Hid (Blk w4 cb 3 #[.int .i64 ((QQ : Nat) : Int)]) := hHd ((HBX.out.below hb3 HBX.out.lt).below hb4 (Nat.lt_of_lt_of_le HBX.out.lt hb3.size))
    have HG4 : Hid (w.grownBy w4 (some cb)) := hHd (grown_below (grown_below HGX.out hb3) hb4)
    clear hb3 hb4
    go_wp2
    go_roundw
    case rel => exact ⟨j + 1, QQ, S', by omega, by go_num, by (show Value.int .i64 _ = Value.int .i64 _; congr 1; have := HS'.out; omega), hS13', by omega, hHd (by have := HCT.out; have := HQ.out; omega), HST, HB4, HG4⟩
    case measure => simp [intOf]; omega
   ·have HIk : Hid (I = d.length) := hHd (by have h := HI.out; rw [h]; unfold Fo.inn; rw [if_neg hodd])
    obtain rfl : I = d.length := HIk.out
    have HC := hHd (fun w => nests_no t (.slice A1 d.length c1) (.slice A2 k.len c2) w hodd)
    clear hodd HI HIk
    go_wp2_with fail
    refine (HC.out _).mono ?_
    rintro r w1 ⟨rfl, hb1⟩
    have HBX : Hid (Blk w1 cb 3 #[.int .i64 ((q + 1 : Nat) : Int)]) := hHd (HBA.out.below hb1 HBA.out.lt)
    have v0 : w1.cell? ⟨wr.heap.size, 0, none⟩ = some (.int .u64 (t : Int)) := by rw [(HIA.out.below hb1 HIA.out.lt).cell]; rfl
    have HGX : Hid (w.grownBy w1 (some cb)) := hHd (grown_below HGA.out hb1)
    obtain ⟨QQ, hQQ⟩ : ∃ QQ, QQ = q + 1 := ⟨_, rfl⟩
    rw [← hQQ] at HBX
    have hQQ : QQ ≤ q + 1 + k.cnt := by omega
    clear hb1 hcc hcf x1 y0 y1 y2 hC0 hC1 hC2 HBA HIA HGA
    go_wp2_with fail
    refine (len_at t _ L1 _ HT64.out rfl HL1.out).mono ?_
    rintro r w3 ⟨rfl, hb3⟩
    go_wp2_with fail
    refine (len_at d.length _ L2 _ HI64.out rfl HL2.out).mono ?_
    rintro r w4 ⟨rfl, hb4⟩
    have HB4 : Hid (Blk w4 cb 3 #[.int .i64 ((QQ : Nat) : Int)]) := hHd ((HBX.out.below hb3 HBX.out.lt).below hb4 (Nat.lt_of_lt_of_le HBX.out.lt hb3.size))
    have HG4 : Hid (w.grownBy w4 (some cb)) := hHd (grown_below (grown_below HGX.out hb3) hb4)
    clear hb3 hb4
    go_wp2
    go_roundw
    case rel => exact ⟨j + 1, QQ, S', by omega, by go_num, by (show Value.int .i64 _ = Value.int .i64 _; congr 1; have := HS'.out; omega), hS13', by omega, hHd (by have := HCT.out; have := HQ.out; omega), HST, HB4, HG4⟩
    case measure => simp [intOf]; omega
  ·obtain rfl : j = f.len := by omega
   have hSe : S = f.all.length := by rw [HS.out, Fo.take_all]
   subst hSe
   have HQ' : Hid (q ≤ c0 + f.cnt) := hHd (by have h := HQ.out; rwa [Fo.take_all] at h)
   clear hlt
   go_wp2
   go_ret
   exact ⟨rfl, HG.out, q, HQ'.out, HB.out⟩
def CheckC : Prop := ∀ (f : Fo) (w : World) (v : Value), FV DataI w (Lo w) v f → f.sz ≤ 1099511627776 → Calls Tryz.prog 46 #[v] w (fun r w' => r = .returned (.bool f.ok) ∧ Below w.heap.size w w')
def GetP (x : Fo × Int × Nat) (w : World) (r : Ending) (w' : World) : Prop :=
 ∃ v, r = .returned (.tuple #[v, .int .i64 x.2.1, .int .i64 (x.2.2 : Int)]) ∧ FV DataI w' (MineI w.heap.size w') v x.1 ∧ Below w.heap.size w w'
def GetC : Prop := ∀ (l : List UInt8) (w : World) (d : Nat) (v : Value), Rd w d v l → l.length ≤ 100000 → Calls Tryz.prog 28 #[v] w (GetP (gotOf l) w)
section
variable {D : World → (Nat → Prop) → Value → List UInt8 → Prop} {w w' : World} {S : Nat → Prop}
theorem FV.lo {base : Nat} {v : Value} {f : Fo} (hD : Stays D) (h : FV D w (MineI base w) v f) : FV D w (Lo w) v f := h.kept hD (fun _ _ => rfl) (fun _ hg => hg.2)
theorem FV.one {b : Nat} {e : TypeId} {t : Nat} {d : List UInt8} {k : Fo} {dv kv : Value} (hb : Blk w b e #[.int .u64 (t : Int), dv, kv]) (hS : S b) (ht : t < 18446744073709551616) (hd : D w S dv d) (hk : FV D w S kv k) :
  FV D w S (.slice (some ⟨b, 0, none⟩) 1 1) (.cons t d k .nil) := by
 obtain ⟨A, c, rfl, h1, h2⟩ := hk
 refine ⟨_, 1, rfl, Nat.le_refl _, fun _ => ⟨b, 0, rfl, hS, ?_, ht, ⟨dv, ?_, hd⟩, ⟨A, c, ?_, h1, h2⟩, trivial⟩⟩
 ·rw [hb.cell]; rfl
 ·rw [hb.cell]; rfl
 ·rw [hb.cell]; rfl
theorem FV.item {v : Value} {t : Nat} {d : List UInt8} {k : Fo} (h : FV D w S v (.cons t d k .nil)) :
  ∃ b o c kv, v = .slice (some ⟨b, o, none⟩) 1 c ∧ 1 ≤ c ∧ S b ∧ w.cell? ⟨b, o + 2, none⟩ = some kv ∧ FV D w S kv k := by
 obtain ⟨A, c, rfl, h1, h2⟩ := h
 obtain ⟨b, o, rfl, h3, h4⟩ := h2 (by simp [Fo.len])
 obtain ⟨_, _, _, ⟨A', c', h5, h6, h7⟩, _⟩ := h4
 exact ⟨b, o, c, _, rfl, h1, h3, h5, A', c', rfl, h6, h7⟩
end
theorem lo_lt {w w' : World} {v : Value} {f : Fo} (h : FV DataI w (Lo w) v f) (hb : Below w.heap.size w w') : FV DataI w' (Lt w.heap.size) v f := h.kept stays_I (fun g hg => hb.block g hg) (fun _ hg => hg)
theorem below_of_grownI {w w0 w' : World} {g : Nat} (h0 : Below w.heap.size w w0) (hg : w0.grownBy w' (some g)) (hw : w.heap.size ≤ g) : Below w.heap.size w w' := by
 refine h0.grown hg h0.size fun k e => ?_
 injection e with e
 omega
def SizeO (f : Fo) (w : World) (r : Ending) (w' : World) : Prop := r = .returned (.int .i64 (f.all.length : Int)) ∧ Below w.heap.size w w'
theorem size_cnt (f : Fo) (w : World) (v : Value) (hv : FV DataI w (Lo w) v f) (hsz : f.sz ≤ 1099511627776) (hc : f.cnt ≤ 60000) : Calls Tryz.prog 80 #[v] w (SizeO f w) := by
 have hmf : ∀ (fn : Fn) (first cap : Array Value) (w : World), (Instr.makeFunc fn first cap).run Tryz.prog w = .ok (.func fn first cap) w := fun _ _ _ _ => rfl
 obtain ⟨A, c, rfl⟩ := hv.shape
 go_enter Tryz.func80, Tryz.ntmps80
 go_wp2_with fail
 have b1 : Blk (w.alloc (.cells #[.int .i64 0] 3)) w.heap.size 3 #[.int .i64 ((0 : Nat) : Int)] := Blk.new _ _ _
 have b2 := Blk.new (w.alloc (.cells #[.int .i64 0] 3)) 153 #[.func (.func 104) #[] #[.pointer (some ⟨w.heap.size, 0, none⟩), .pointer (some ⟨w.heap.size + 1, 0, none⟩)]]
 rw [World.size_alloc] at b2
 have hB' : Below w.heap.size w ((w.alloc (.cells #[.int .i64 0] 3)).alloc (.cells #[.func (.func 104) #[] #[.pointer (some ⟨w.heap.size, 0, none⟩), .pointer (some ⟨w.heap.size + 1, 0, none⟩)]] 153)) := ((Below.refl _ w).alloc (Nat.le_refl _) _).alloc (by simp) _
 have hv' := lo_lt hv hB'
 have z := hB'.size
 refine (size1_any f _ _ w.heap.size w.heap.size (w.heap.size + 1) 1 0 1 hv' hsz (by omega) (by omega) rfl (Nat.le_refl _) (by omega) z (by omega) (b1.alloc _) b2).mono ?_
 rintro r w1 ⟨rfl, hg, q, -, -⟩
 have hB1 := below_of_grownI hB' hg (Nat.le_refl _)
 clear hg hB' hv'
 go_wp2
 go_ret
 exact ⟨rfl, hB1⟩
theorem checkC : CheckC := by
 intro f w v hv hsz
 have hmf : ∀ (fn : Fn) (first cap : Array Value) (w : World), (Instr.makeFunc fn first cap).run Tryz.prog w = .ok (.func fn first cap) w := fun _ _ _ _ => rfl
 obtain ⟨A, c, rfl⟩ := hv.shape
 have HO : Hid (f.ok = (Fo.right 1 f && decide (f.all.length ≤ 8192))) := hHd rfl
 have hal : f.all.length ≤ 22000000000000 := by have := f.all_le; omega
 go_enter Tryz.func46, Tryz.ntmps46
 go_wp2_with fail
 have b1 : Blk (w.alloc (.cells #[.int .i64 0] 3)) w.heap.size 3 #[.int .i64 ((0 : Nat) : Int)] := Blk.new _ _ _
 have b2 := Blk.new (w.alloc (.cells #[.int .i64 0] 3)) 124 #[.func (.func 78) #[] #[.pointer (some ⟨w.heap.size, 0, none⟩), .pointer (some ⟨w.heap.size + 1, 0, none⟩)]]
 rw [World.size_alloc] at b2
 have hB' : Below w.heap.size w ((w.alloc (.cells #[.int .i64 0] 3)).alloc (.cells #[.func (.func 78) #[] #[.pointer (some ⟨w.heap.size, 0, none⟩), .pointer (some ⟨w.heap.size + 1, 0, none⟩)]] 124)) := ((Below.refl _ w).alloc (Nat.le_refl _) _).alloc (by simp) _
 have hv' := lo_lt hv hB'
 have z := hB'.size
 refine (sound_any f _ _ w.heap.size w.heap.size (w.heap.size + 1) 1 0 1 hv' hsz (by omega) rfl (by omega) (Nat.le_refl _) (by omega) z (by omega) (b1.alloc _) b2).mono ?_
 rintro r w1 ⟨b, rfl, hb, hg, -⟩
 have hB1 := below_of_grownI hB' hg (Nat.le_refl _)
 have HB := hHd hb
 clear hg hB' hv' b1 b2 z hb
 cases b with
 | false =>
  have HP : Hid (f.ok = false) := hHd (by
   rw [HO.out]
   cases hr : Fo.right 1 f with
   | false => rfl
   | true =>
    have h := HB.out
    rw [hr, Bool.true_and] at h
    have h2 : ¬ 0 + f.cnt ≤ 4096 := of_decide_eq_false h.symm
    have h3 := Fo.cnt_all f 1 hr
    rw [Bool.true_and, show decide (f.all.length ≤ 8192) = false from decide_eq_false (by omega)])
  go_wp2
  go_ret
  exact ⟨by rw [HP.out]; rfl, hB1⟩
 | true =>
  have h := HB.out.symm
  rw [Bool.and_eq_true, decide_eq_true_eq] at h
  obtain ⟨hr, hcn⟩ := h
  have HP : Hid (f.ok = decide ((f.all.length : Int) ≤ 8192)) := hHd (by
   rw [HO.out, hr, Bool.true_and]
   rw [Bool.eq_iff_iff]; simp; omega)
  have hv1 : FV DataI w1 (Lo w1) (.slice A f.len c) f := hv.kept stays_I (fun g hg => hB1.block g hg) (fun _ hg => Nat.lt_of_lt_of_le hg hB1.size)
  have HC := hHd (size_cnt f w1 _ hv1 hsz (by omega))
  clear hr hcn hv1
  go_wp2_with fail
  refine HC.out.mono ?_
  rintro r w2 ⟨rfl, hb2⟩
  go_wp2
  go_ret
  exact ⟨by rw [HP.out]; rfl, hB1.trans (hb2.mono hB1.size)⟩
end Go.Proofs.YtleidkpdpabkpaaGreatDoor
