/-
  What package varint's Put and Len answer. No condition but those of each theorem.
-/
import Derived.Test.YtepcaaejadeklaaDoorVarA
namespace Go.Proofs.YtepcaaejadeklaaDoor
open Go.RowKit Go.Shelf
attribute [local go_sem] Oper.semAt_some

/-- The bytes that a number's groups become, each with 128 on top. -/
def up (l : List UInt8) : List UInt8 := l.map fun c => c + 128
theorem up_snoc (l : List UInt8) (c : UInt8) : up (l ++ [c]) = up l ++ [c + 128] := by simp [up]
theorem byteV_up (c : UInt8) : byteV (c + 128) = .int .u8 (IntKind.u8.wrap ((c.toNat : Int) + 128)) := by
  unfold byteV
  rw [UInt8.toNat_add, IntKind.wrap_u8]
  congr 1

/-- A slice of the call's own whose last byte is written. -/
theorem Own.last {w : World} {base g k cap : Nat} {l : List UInt8} (h : Own w base (.slice (some ⟨g, 0, none⟩) k cap) l) (hk : l.length = k) (h0 : 0 < k) (hk47 : k ≤ 140737488355328) :
    (∃ c, l[k - 1]? = some c ∧ w.cell? ⟨g, k - 1, none⟩ = some (byteV c)) ∧ w.frozen? ⟨g, k - 1, none⟩ = false ∧ base ≤ g ∧
      ∀ u : UInt8, Own (w.setCell ⟨g, k - 1, none⟩ (byteV u)) base (.slice (some ⟨g, 0, none⟩) k cap) (l.modify (k - 1) (fun _ => u)) := by
  subst hk
  have hh := h
  have hst := fun u : UInt8 => (World.ownsRow.stored h (l.length - 1) (byteV u)).1
  obtain ⟨_, h2⟩ := h
  rcases h2 with ⟨hv, _⟩ | ⟨g', cap', cur, hv, hb, hg, hnc, hcm, hs, ht⟩
  · cases hv
  · injection hv with e1 e2 e3
    injection e1 with e1
    injection e1 with e1
    subst e1 e3
    clear e2
    have hcell : ∀ j b, l[j]? = some b → w.cell? ⟨g, j, none⟩ = some (byteV b) := fun j b hj => by
      have hjl : j < l.length := (List.getElem?_eq_some_iff.1 hj).1
      have := World.ownsRow.cellAt hh (0 + j) (by omega)
      simp only [Nat.zero_add] at this
      rw [this]
      simp [hj]
    have hlast : ∃ c, l[l.length - 1]? = some c := ⟨_, List.getElem?_eq_getElem (by omega)⟩
    obtain ⟨c, hc⟩ := hlast
    refine ⟨⟨c, hc, hcell _ _ hc⟩, by simp [World.frozen?, hg], hb, fun u => ?_⟩
    have e : (l.modify (l.length - 1) (fun _ => u)).map byteV = (l.map byteV).set (l.length - 1) (byteV u) := by
      rw [← List.map_set]
      congr 1
      apply List.ext_getElem?
      intro j
      rw [List.getElem?_modify, List.getElem?_set]
      by_cases hj : l.length - 1 = j
      · subst hj
        rw [hc]
        simp
        omega
      · simp [hj]
    unfold Own
    rw [e, List.length_modify]
    exact hst u

/-- What Put hands back: a slice of the call's own. -/
def PutOwn (x : Nat) (w : World) (r : Ending) (w' : World) : Prop :=
  ∃ v, r = .returned v ∧ Own w' w.heap.size v (encV 9 x) ∧ Below w.heap.size w w'
def PutPost (x : Nat) (w : World) (r : Ending) (w' : World) : Prop :=
  ∃ v d, r = .returned v ∧ Rd w' d v (encV 9 x) ∧ w.heap.size ≤ d ∧ Below w.heap.size w w'

set_option maxRecDepth 100000 in
set_option maxHeartbeats 2000000 in
theorem put_in (F : Fence) (n : Nat) (h3 : F.fn 20) (h4 : F.fn 30) (h5 : F.fn 35) (hro : F.round = none) (hn : 3 ≤ n) (x : Nat) (hx : x < 18446744073709551616) (w : World) :
    CallsIn F n Tryd.prog 20 #[.int .u64 (x : Int)] w (PutOwn x w) := by
  have h1 : 1 ≤ n := by omega
  obtain ⟨i0, hi, hz0, hz1, hz2⟩ := info_parts Tryd.cells22o
  refine callsIn_of_wp_marks Tryd.func20 rfl h3 ?_ hro
  simp only [Tryd.ntmps20, List.size_toArray, List.length_cons, List.length_nil, Nat.reduceAdd, Nat.reduceSub, Array.replicate_succ, Array.replicate_zero, List.push_toArray, List.append_toArray, List.nil_append, List.cons_append]
  gi_wp2_with (gi_at_call 30; refine (groups_in F (n - 1) h4 hro _ _).mono ?_; rintro e w' ⟨rfl, rfl⟩)
  have bO := Boxed.new w 22 (.slice none 0 0)
  have bN := Boxed.new (w.alloc (.cells #[.slice none 0 0] 22)) 51 (.int .u64 (x : Int))
  rw [World.size_alloc] at bN
  have hB0 : Below w.heap.size w ((w.alloc (.cells #[.slice none 0 0] 22)).alloc (.cells #[.int .u64 (x : Int)] 51)) := ((Below.refl _ w).alloc (Nat.le_refl _) _).alloc (by simp) _
  have hlen := (encV_length 9 x).2
  have hpos := (encV_length 9 x).1
  rw [← grp_length] at hlen hpos
  have HE := Lib.hid (enc_grp 9 x (by
    have : (18446744073709551616 : Nat) < 128 ^ (9 + 1) := by decide
    omega))
  refine wpIn_rangeFunc_ownG hro h1 (gf := 35) (lb := #[.pointer (some ⟨w.heap.size + 1, 0, none⟩)]) rfl h5 (enters_of Tryd.func35 (by kernel_rfl) rfl)
    (groups_stops F (n - 1) h5 hro (by omega) (w.heap.size + 1) w.heap.size x hx _ (by simp) bN.cell) belowK_t (belowK_b (by simp; omega)) (Below.refl _ _) (fun _ => rfl)
    (fun pre W => (∃ v, Boxed W w.heap.size 22 v ∧ W.ownsRow w.heap.size 5 1 v (up pre).length ((up pre).map byteV) ∧ True) ∧ Below w.heap.size w W)
    (fun _ _ _ => False)
    (OwnFrom.and (Own.from (holdsRow_own w.heap.size w.heap.size 22 5 1 (fun pre => (up pre).length) (fun pre => (up pre).map byteV) (fun _ _ => True)) _) (ownFrom_below (Nat.le_refl _) (by simp; omega)))
    (fun _ _ _ _ _ hs _ _ => hs)
    ⟨⟨_, bO.alloc _, World.ownsRow_nil _ _ _ _, trivial⟩, hB0⟩
    (fun c => { tmps := #[.int .u64 (x : Int), undef, .slice none 0 0, .pointer (some ⟨w.heap.size, 0, none⟩), byteV c, .int .u64 (x : Int), .func (.func 35) #[] #[.pointer (some ⟨w.heap.size + 1, 0, none⟩)], byteV c, undef, undef, undef, undef, undef, undef, undef, undef, undef, undef, undef, undef, undef, undef], defers := [] }) ?assign ?body ?done ?stop
  case assign =>
    intro l c W K hK
    gi_wp2
    exact hK
  case body =>
    rintro l pre c W ⟨⟨v, hv, hrow, -⟩, hB⟩ hlt
    have hc := hv.cell
    have hpl : (up pre).length = pre.length := by simp [up]
    have hrow' : W.ownsRow w.heap.size 5 1 v pre.length ((up pre).map byteV) := by rw [← hpl]; exact hrow
    have HL := Lib.hid hpl
    clear hpl hrow
    obtain ⟨u, hu⟩ : ∃ u : Int, byteV c = .int .u8 u := ⟨_, rfl⟩
    have hcu : IntKind.u8.wrap (u + 128) = ((c + 128).toNat : Int) := by
      have h := byteV_up c
      have hu' : u = (c.toNat : Int) := by unfold byteV at hu; injection hu with _ hu; exact hu.symm
      unfold byteV at h
      injection h with _ h
      rw [hu', h]
    rw [hu]
    have HC := Lib.hid hcu
    clear hcu hu
    gi_wp2_with (gi_at_builtin; refine wpListIn_append_own _ rfl _ _ 22 rfl w.heap.size 5 i0 (.int .u8 0) 1 1 Tryd.underlying22 hi hz0 hz1 hz2 rfl (by decide) _ _ _ rfl (hrow'.alloc _) ⟨W.heap.size, 0, none⟩ 1 1 [.int .u8 (IntKind.u8.wrap (u + 128))] rfl rfl (cell_one_new _ _ _) (by simp [Value.oneCell']) (by unfold maxLen; omega) (by omega) (by have := hB.size; simp; omega) ?_; intro v' w1 hown' hgrow _; obtain ⟨g', cap', rfl⟩ := ownsRow_succ hown'; obtain ⟨hv1, hv2, hr2, hk2, hb2⟩ := hv.appended (by decide) hrow' hB.size (Nat.le_refl _) hown' hgrow; have hc1 := hv1.cell; have hf1 := hv1.frozen)
    refine ⟨hk2.from _, hb2, ⟨_, hv2, ?_, trivial⟩, hB.trans hb2⟩
    have hl1 : (up (pre ++ [c])).length = pre.length + 1 := by rw [up_snoc, List.length_append, HL.out]; rfl
    have hl2 : (up (pre ++ [c])).map byteV = (up pre).map byteV ++ [.int .u8 (IntKind.u8.wrap (u + 128))] := by
      rw [up_snoc, List.map_append, HC.out]; rfl
    rw [hl1, hl2]
    exact hr2
  case done =>
    rintro D ys W hD hys ⟨⟨v, hv, hrow, -⟩, hB⟩ hK
    have hup : (up ys).length = (grp 9 x).length := by rw [hys]; simp [up]
    obtain ⟨k, hk⟩ : ∃ k, k = (up ys).length := ⟨_, rfl⟩
    have hown : Own W w.heap.size v (up ys) := hrow
    rw [← hk] at hrow
    obtain ⟨k', rfl⟩ : ∃ k', k = k' + 1 := ⟨k - 1, by omega⟩
    obtain ⟨g, cap, rfl⟩ := ownsRow_succ hrow
    obtain ⟨⟨c, hcl, hcell⟩, hfz, hbg, hset⟩ := hown.last hk.symm (by omega) (by omega)
    have hc := hv.cell
    have hcu : IntKind.u8.wrap ((c.toNat : Int) - 128) = ((c - 128).toNat : Int) := by
      rw [IntKind.wrap_u8, UInt8.toNat_sub]
      have := UInt8.toNat_lt c
      show _ = ((((256 - 128 + c.toNat) % 256 : Nat)) : Int)
      omega
    have hE : encV 9 x = (up ys).modify (k' + 1 - 1) (fun _ => c - 128) := by
      rw [HE.out]
      show (up (grp 9 x)).modify ((up (grp 9 x)).length - 1) _ = _
      rw [← hys, hk]
      apply List.ext_getElem?
      intro j
      rw [List.getElem?_modify, List.getElem?_modify]
      by_cases hj : (up ys).length - 1 = j
      · rw [← hj]
        rw [hk] at hcl
        rw [hcl]
        simp
      · simp [hj]
    have HE2 := Lib.hid hE
    have HS := Lib.hid hset
    have HCU := Lib.hid hcu
    have hkn : ((k' : Int) + 1 - 1) = (k' : Int) := by omega
    have hle : k' ≤ 10 := by omega
    have hne : w.heap.size ≠ g := fun e => hv.not_row (by decide) hrow (by rw [e]; rfl)
    have hfar : ∀ u, (W.setCell ⟨g, k', none⟩ u).cell? ⟨w.heap.size, 0, none⟩ = some (.slice (some ⟨g, 0, none⟩) (k' + 1) cap) := fun u => by
      rw [World.cell?_setCell_other _ _ _ _ (by intro e; injection e with e; exact hne e.symm)]
      exact hv.cell
    have hidx : k' + 1 - 1 = k' := by omega
    rw [hidx] at hcell hfz
    have HFZ : W.frozen? ⟨g, k', none⟩ = false := hfz
    have hcell' : W.cell? ⟨g, k', none⟩ = some (.int .u8 (c.toNat : Int)) := hcell
    clear hset hE hcu hcl hk hup hys hown hrow HE hkn hidx hcell
    gi_wp2
    have hst : Value.int .u8 (((c.toNat : Int) - 128) % 256) = byteV (c - 128) := by
      have h := HCU.out
      rw [IntKind.wrap_u8] at h
      unfold byteV
      rw [← h]
    refine ⟨by simp, .inl ⟨_, _, rfl, run_takeDeferred ((KeepsOthers.setCell _ _ _).same D _ hK rfl), ?_⟩⟩
    refine ⟨_, results_tmp rfl _ _ _, ?_⟩
    have hrd := HS.out (c - 128)
    rw [← HE2.out, Nat.add_sub_cancel, ← hst] at hrd
    have hbK := belowK_b (w := w) (n₀ := w.heap.size) (Nat.le_refl _) (W.setCell ⟨g, k', none⟩ (.int .u8 (((c.toNat : Int) - 128) % 256))) D _ (.deferred none) (by simp at hD; omega) ((KeepsOthers.setCell _ _ _).same D _ hK rfl) rfl rfl
    have hB2 := (hB.setCell (p := ⟨g, k', none⟩) hbg (.int .u8 (((c.toNat : Int) - 128) % 256))).trans hbK
    refine ⟨_, rfl, ?_, hB2⟩
    refine World.ownsRow.kept hrd (grownBy_putObj' _ D (.deferred none)) (.inr ?_)
    intro e
    injection e with e
    subst e
    simp [World.cell?, hK] at hcell'
  case stop =>
    rintro D c pre W _ _ h _
    exact h.elim

theorem put_own (x : Nat) (hx : x < 18446744073709551616) (w : World) : Calls Tryd.prog 20 #[.int .u64 (x : Int)] w (PutOwn x w) :=
  (callsIn_wide (n := 5)).1 (put_in Fence.wide 5 trivial trivial trivial rfl (by omega) x hx w)
theorem put_any (x : Nat) (hx : x < 18446744073709551616) (w : World) : Calls Tryd.prog 20 #[.int .u64 (x : Int)] w (PutPost x w) :=
  (put_own x hx w).mono fun r w' ⟨v, hr, ho, hb⟩ => by
    have hl := (encV_length 9 x).2
    obtain ⟨d, hd, -, hrd⟩ := ho.rd (by omega)
    exact ⟨v, d, hr, hrd, hd, hb⟩

/-! ### Len -/
def LenPost (x : Nat) (w : World) (r : Ending) (w' : World) : Prop := r = .returned (.int .i64 ((encV 9 x).length : Int)) ∧ Below w.heap.size w w'

end Go.Proofs.YtepcaaejadeklaaDoor
