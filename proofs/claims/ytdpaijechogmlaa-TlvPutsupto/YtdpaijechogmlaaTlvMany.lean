/-
  What the laws' function many counts. No condition but those of each theorem.
-/
import Derived.Test.YtdpaijechogmlaaTlvMem
import Derived.Test.YtdpaijechogmlaaDrawn
import Derived.Deep.DrawnRows
import Derived.WalkLawsBesides
import Derived.Outline
namespace Go.Proofs.Ytdpaijechogmlaa
open Go.RowKit
set_option linter.unusedSimpArgs false
attribute [local go_sem ↓] Go.wp_at_zero Go.wp_at_succ

/-- The blocks that lie below. -/
def Lo (w : World) (g : Nat) : Prop := g < w.heap.size
theorem FV.below {D : World → (Nat → Prop) → Value → List UInt8 → Prop} {w w' : World} {v : Value} {f : Fo} (hD : Stays D) (h : FV D w (Lo w) v f) (hb : Below w.heap.size w w') : FV D w' (Lo w') v f :=
  h.kept hD (fun g hg => hb.block g hg) (fun _ hg => Nat.lt_of_lt_of_le hg hb.size)

namespace Fo
def ex : Fo → Nat
  | nil => 0
  | cons _ d k r => d.length / 100 + k.wt + r.ex
theorem ex_app (f g : Fo) : (f.app g).ex = f.ex + g.ex := by
  induction f with
  | nil => simp [app, ex]
  | cons t d k r _ ih => simp only [app, ex, ih]; omega
theorem wt_ex (f : Fo) : f.wt = f.len + f.ex := by
  induction f with
  | nil => simp [wt, len, ex]
  | cons t d k r _ ih => simp only [wt, len, ex]; omega
end Fo

def ManyPost (f : Fo) (w : World) (r : Ending) (w' : World) : Prop := r = .returned (.int .i64 (f.wt : Int)) ∧ Below w.heap.size w w'

theorem hundred (m : Nat) (n k : Nat) (hm : m ≤ 1099511627776) (hn : n ≤ 1099511627776) (hk : k ≤ 1099511627776) :
    IntKind.i64.wrap ((n : Int) + IntKind.i64.wrap ((k : Int) + IntKind.i64.wrap ((m : Int) / 100))) = ((n + (m / 100 + k) : Nat) : Int) := by
  have ht : (m : Int) / 100 = ((m / 100 : Nat) : Int) := by omega
  rw [ht, IntKind.wrap_i64, IntKind.wrap_i64, IntKind.wrap_i64]
  omega

set_option maxRecDepth 100000 in
set_option maxHeartbeats 4000000 in
theorem many_any (f : Fo) : ∀ (w : World) (v : Value), FV DataI w (Lo w) v f → f.sz ≤ 1099511627776 → Calls Try.prog 9 #[v] w (ManyPost f w) := by
  refine Fo.byKids (P := fun f => ∀ (w : World) (v : Value), FV DataI w (Lo w) v f → f.sz ≤ 1099511627776 → Calls Try.prog 9 #[v] w (ManyPost f w)) ?_ f
  clear f
  intro f hkids w v hv hsz
  obtain ⟨A, c, rfl⟩ := hv.shape
  have hwx := f.wt_ex
  have hws := f.wt_le_sz
  have hlen40 : f.len ≤ 1099511627776 := by omega
  have HW := Lib.hid hwx
  have HK : Hid (Fo.kidsAll (fun f => ∀ (w : World) (v : Value), FV DataI w (Lo w) v f → f.sz ≤ 1099511627776 → Calls Try.prog 9 #[v] w (ManyPost f w)) f) := Lib.hid hkids
  clear hkids hwx
  go_enter Try.func9, Try.ntmps9
  go_wp2
  go_loopw [3, 4] (fun n i wr => ∃ (j x : Nat), j ≤ f.len ∧ i = .int .i64 (j : Int) ∧ n = .int .i64 (x : Int) ∧ Hid (x = f.len + (Fo.take j f).ex) ∧ Below w.heap.size w wr) (fun _ i _ => f.len - (intOf i).toNat)
  case atStart => exact ⟨0, f.len, Nat.zero_le _, rfl, rfl, Lib.hid rfl, Below.refl _ _⟩
  case round =>
    obtain ⟨j, x, hj, rfl, rfl, HX, hB⟩ := hrel
    have hx : x ≤ 1099511627776 := by
      rw [HX.out]
      have h1 : (Fo.take j f).ex ≤ f.ex := by
        have h := Fo.ex_app (Fo.take j f) (Fo.drop j f)
        rw [Fo.take_app_drop] at h
        omega
      have h2 := HW.out
      omega
    by_cases hlt : j < f.len
    · obtain ⟨b, o, c', t, d, k, hve, hcap, hS, hdr, htk, ht64, hc0, ⟨dv, hc1, db, hdv, hdS⟩, ⟨kv, hc2, hkv⟩⟩ := hv.at hlt
      injection hve with e1 e2 e3
      subst e1 e3
      have hSb : b < w.heap.size := hS
      obtain ⟨D, cd, rfl⟩ : ∃ D cd, dv = .slice D d.length cd := by obtain ⟨D, cd, e, _⟩ := hdv; exact ⟨D, cd, e⟩
      have hdrop : (Fo.drop j f).sz ≤ f.sz := by
        have h := Fo.sz_app (Fo.take j f) (Fo.drop j f)
        rw [Fo.take_app_drop] at h
        omega
      rw [hdr] at hdrop
      simp only [Fo.sz] at hdrop
      have hks := k.wt_le_sz
      have hd40 : d.length ≤ 1099511627776 := by omega
      have hk40 : k.wt ≤ 1099511627776 := by omega
      have hIH : ∀ (w : World) (v : Value), FV DataI w (Lo w) v k → k.sz ≤ 1099511627776 → Calls Try.prog 9 #[v] w (ManyPost k w) := by
        have h := Fo.kidsAll_drop j HK.out
        rw [hdr] at h
        exact h.1
      have HN : Hid (x + (d.length / 100 + k.wt) = f.len + (Fo.take (j + 1) f).ex) := Lib.hid (by
        rw [htk, Fo.ex_app, HX.out]
        simp only [Fo.ex]
        omega)
      have HSUM := Lib.hid (hundred d.length x k.wt hd40 hx hk40)
      have hks40 : k.sz ≤ 1099511627776 := by omega
      have hBd := hB.drew
      have hC0 : wr.drew.cell? ⟨b, o + j * 3 + 1, none⟩ = some (.slice D d.length cd) := (hBd.cell (p := ⟨b, o + j * 3 + 1, none⟩) hSb).trans hc1
      have hC2 : wr.drew.cell? ⟨b, o + j * 3 + 2, none⟩ = some kv := (hBd.cell (p := ⟨b, o + j * 3 + 2, none⟩) hSb).trans hc2
      have hkv2 : FV DataI wr.drew (Lo wr.drew) kv k := hkv.kept stays_I (fun g hg => hBd.block g hg) (fun _ hg => Nat.lt_of_lt_of_le hg hBd.size)
      have HI := Lib.hid (hIH wr.drew kv hkv2 hks40)
      have i1 : (0 : Int) ≤ (j : Int) := by omega
      have i2 : (j : Int) < (f.len : Int) := by omega
      clear hIH hkv hkv2 hdr htk hc0 hc1 hc2 e2 hdv hdS hS hdrop hks hsz hws
      go_wp2_with fail
      refine wp_region_noPanic ?_
      refine wp_region_held_drew (S := fun _ => True) (by kernel_rfl) trivial (fun hS => ?_)
      refine wpAnyH_take (i := 0) (oi := ?o1_0_1) (v := ?v1_0_1) ?i1_0_1 (by kernel_rfl) (by kernel_rfl) (by kernel_rfl) (fun _ _ _ h => h) (Or.inl ⟨?g1_0_1, ?y1_0_1⟩) hS ?_
      case i1_0_1 => simp only [List.getElem?_toArray, List.getElem?_cons_succ, List.getElem?_cons_zero]; rfl
      case g1_0_1 => rfl
      case y1_0_1 => (intro w hSw; (go_simp <;> with_reducible rfl))
      (try simp only [Act.put, List.setIfInBounds_toArray, List.set_cons_zero, List.set_cons_succ])
      refine wpAnyH_take (i := 1) (oi := ?o1_1_2) (v := ?v1_1_2) ?i1_1_2 (by kernel_rfl) (by kernel_rfl) (by kernel_rfl) (fun _ _ _ h => h) (Or.inl ⟨?g1_1_2, ?y1_1_2⟩) hS ?_
      case i1_1_2 => simp only [List.getElem?_toArray, List.getElem?_cons_succ, List.getElem?_cons_zero]; rfl
      case g1_1_2 => rfl
      case y1_1_2 => (intro w hSw; (go_simp <;> with_reducible rfl))
      (try simp only [Act.put, List.setIfInBounds_toArray, List.set_cons_zero, List.set_cons_succ])
      refine wpAnyH_take (i := 2) (oi := ?o1_2_3) (v := ?v1_2_3) ?i1_2_3 (by kernel_rfl) (by kernel_rfl) (by kernel_rfl) (fun _ _ _ h => h) (Or.inl ⟨?g1_2_3, ?y1_2_3⟩) hS ?_
      case i1_2_3 => simp only [List.getElem?_toArray, List.getElem?_cons_succ, List.getElem?_cons_zero]; rfl
      case g1_2_3 => rfl
      case y1_2_3 => (intro w hSw; (go_simp <;> with_reducible rfl))
      (try simp only [Act.put, List.setIfInBounds_toArray, List.set_cons_zero, List.set_cons_succ])
      refine wpAnyH_take (i := 3) (oi := ?o1_3_4) (v := ?v1_3_4) ?i1_3_4 (by kernel_rfl) (by kernel_rfl) (by kernel_rfl) (fun _ _ _ h => h) (Or.inl ⟨?g1_3_4, ?y1_3_4⟩) hS ?_
      case i1_3_4 => simp only [List.getElem?_toArray, List.getElem?_cons_succ, List.getElem?_cons_zero]; rfl
      case g1_3_4 => rfl
      case y1_3_4 => (intro w hSw; (go_simp <;> with_reducible rfl))
      (try simp only [Act.put, List.setIfInBounds_toArray, List.set_cons_zero, List.set_cons_succ])
      refine wpAnyH_take (i := 4) (oi := ?o1_4_5) (v := ?v1_4_5) ?i1_4_5 (by kernel_rfl) (by kernel_rfl) (by kernel_rfl) (fun _ _ _ h => h) (Or.inl ⟨?g1_4_5, ?y1_4_5⟩) hS ?_
      case i1_4_5 => simp only [List.getElem?_toArray, List.getElem?_cons_succ, List.getElem?_cons_zero]; rfl
      case g1_4_5 => rfl
      case y1_4_5 => (intro w hSw; (go_simp <;> with_reducible rfl))
      (try simp only [Act.put, List.setIfInBounds_toArray, List.set_cons_zero, List.set_cons_succ])
      refine held_more (S' := fun w' => w'.cell? ⟨b, o + j * 3 + 2, none⟩ = some kv ∧ w'.cell? ⟨b, o + j * 3 + 1, none⟩ = some (.slice D d.length cd)) (fun _ _ => trivial) _ _ _ _ ?_
      replace hS := And.intro hC2 hC0
      refine wpAnyH_take (i := 5) (oi := ?o1_5_6) (v := ?v1_5_6) ?i1_5_6 (by kernel_rfl) (by kernel_rfl) (by kernel_rfl) (fun _ _ _ h => h) (Or.inl ⟨?g1_5_6, ?y1_5_6⟩) hS ?_
      case i1_5_6 => simp only [List.getElem?_toArray, List.getElem?_cons_succ, List.getElem?_cons_zero]; rfl
      case g1_5_6 => rfl
      case y1_5_6 => (intro w hSw; have hc := hSw.1; (go_simp <;> with_reducible rfl))
      (try simp only [Act.put, List.setIfInBounds_toArray, List.set_cons_zero, List.set_cons_succ])
      refine wpAnyH_take (i := 7) (oi := ?o1_7_7) (v := ?v1_7_7) ?i1_7_7 (by kernel_rfl) (by kernel_rfl) (by kernel_rfl) (fun _ _ _ h => h) (Or.inl ⟨?g1_7_7, ?y1_7_7⟩) hS ?_
      case i1_7_7 => simp only [List.getElem?_toArray, List.getElem?_cons_succ, List.getElem?_cons_zero]; rfl
      case g1_7_7 => rfl
      case y1_7_7 => (intro w hSw; (go_simp <;> with_reducible rfl))
      (try simp only [Act.put, List.setIfInBounds_toArray, List.set_cons_zero, List.set_cons_succ])
      refine wpAnyH_take (i := 8) (oi := ?o1_8_8) (v := ?v1_8_8) ?i1_8_8 (by kernel_rfl) (by kernel_rfl) (by kernel_rfl) (fun _ _ _ h => h) (Or.inl ⟨?g1_8_8, ?y1_8_8⟩) hS ?_
      case i1_8_8 => simp only [List.getElem?_toArray, List.getElem?_cons_succ, List.getElem?_cons_zero]; rfl
      case g1_8_8 => rfl
      case y1_8_8 => (intro w hSw; (go_simp <;> with_reducible rfl))
      (try simp only [Act.put, List.setIfInBounds_toArray, List.set_cons_zero, List.set_cons_succ])
      refine wpAnyH_take (i := 9) (oi := ?o1_9_9) (v := ?v1_9_9) ?i1_9_9 (by kernel_rfl) (by kernel_rfl) (by kernel_rfl) (fun _ _ _ h => h) (Or.inl ⟨?g1_9_9, ?y1_9_9⟩) hS ?_
      case i1_9_9 => simp only [List.getElem?_toArray, List.getElem?_cons_succ, List.getElem?_cons_zero]; rfl
      case g1_9_9 => rfl
      case y1_9_9 => (intro w hSw; (go_simp <;> with_reducible rfl))
      (try simp only [Act.put, List.setIfInBounds_toArray, List.set_cons_zero, List.set_cons_succ])
      refine wpAnyH_take (i := 10) (oi := ?o1_10_10) (v := ?v1_10_10) ?i1_10_10 (by kernel_rfl) (by kernel_rfl) (by kernel_rfl) (fun _ _ _ h => h) (Or.inl ⟨?g1_10_10, ?y1_10_10⟩) hS ?_
      case i1_10_10 => simp only [List.getElem?_toArray, List.getElem?_cons_succ, List.getElem?_cons_zero]; rfl
      case g1_10_10 => rfl
      case y1_10_10 => (intro w hSw; (go_simp <;> with_reducible rfl))
      (try simp only [Act.put, List.setIfInBounds_toArray, List.set_cons_zero, List.set_cons_succ])
      refine wpAnyH_take (i := 11) (oi := ?o1_11_11) (v := ?v1_11_11) ?i1_11_11 (by kernel_rfl) (by kernel_rfl) (by kernel_rfl) (fun _ _ _ h => h) (Or.inl ⟨?g1_11_11, ?y1_11_11⟩) hS ?_
      case i1_11_11 => simp only [List.getElem?_toArray, List.getElem?_cons_succ, List.getElem?_cons_zero]; rfl
      case g1_11_11 => rfl
      case y1_11_11 => (intro w hSw; have hc := hSw.2; (go_simp <;> with_reducible rfl))
      (try simp only [Act.put, List.setIfInBounds_toArray, List.set_cons_zero, List.set_cons_succ])
      refine wpAnyH_take (i := 12) (oi := ?o1_12_12) (v := ?v1_12_12) ?i1_12_12 (by kernel_rfl) (by kernel_rfl) (by kernel_rfl) (fun _ _ _ h => h) (Or.inl ⟨?g1_12_12, ?y1_12_12⟩) hS ?_
      case i1_12_12 => simp only [List.getElem?_toArray, List.getElem?_cons_succ, List.getElem?_cons_zero]; rfl
      case g1_12_12 => rfl
      case y1_12_12 => (intro w hSw; (go_simp <;> with_reducible rfl))
      (try simp only [Act.put, List.setIfInBounds_toArray, List.set_cons_zero, List.set_cons_succ])
      refine wpAnyH_take (i := 13) (oi := ?o1_13_13) (v := ?v1_13_13) ?i1_13_13 (by kernel_rfl) (by kernel_rfl) (by kernel_rfl) (fun _ _ _ h => h) (Or.inl ⟨?g1_13_13, ?y1_13_13⟩) hS ?_
      case i1_13_13 => simp only [List.getElem?_toArray, List.getElem?_cons_succ, List.getElem?_cons_zero]; rfl
      case g1_13_13 => rfl
      case y1_13_13 => (intro w hSw; (go_simp <;> with_reducible rfl))
      (try simp only [Act.put, List.setIfInBounds_toArray, List.set_cons_zero, List.set_cons_succ])
      refine wpAnyH_ready (rs := [6]) (by kernel_rfl) (by simp) ?_
      refine (AllReadyH.cons (o := ?o1_14_6) ?i1_14_6 (fun K hK => ?st1_14_6) AllReadyH.nil)
      case i1_14_6 => simp only [List.getElem?_toArray, List.getElem?_cons_succ, List.getElem?_cons_zero]; rfl
      rw [if_pos (by rfl)]
      go_simp
      refine HI.out.mono ?_
      rintro r w6 ⟨rfl, hb6⟩
      go_wp2_with fail
      refine hK.out _ _ ?s1_14_6 (fun hS => ?_)
      case s1_14_6 => (exact ⟨(hb6.cell (p := ⟨b, o + j * 3 + 2, none⟩) (Nat.lt_of_lt_of_le hSb hBd.size)).trans hS.1, (hb6.cell (p := ⟨b, o + j * 3 + 1, none⟩) (Nat.lt_of_lt_of_le hSb hBd.size)).trans hS.2⟩)
      clear hK K
      (try simp only [Act.put, List.setIfInBounds_toArray, List.set_cons_zero, List.set_cons_succ])
      refine wpAnyH_take (i := 14) (oi := ?o1_14_15) (v := ?v1_14_15) ?i1_14_15 (by kernel_rfl) (by kernel_rfl) (by kernel_rfl) (fun _ _ _ h => h) (Or.inl ⟨?g1_14_15, ?y1_14_15⟩) hS ?_
      case i1_14_15 => simp only [List.getElem?_toArray, List.getElem?_cons_succ, List.getElem?_cons_zero]; rfl
      case g1_14_15 => rfl
      case y1_14_15 => (intro w hSw; (go_simp <;> with_reducible rfl))
      (try simp only [Act.put, List.setIfInBounds_toArray, List.set_cons_zero, List.set_cons_succ])
      refine wpAnyH_take (i := 15) (oi := ?o1_15_16) (v := ?v1_15_16) ?i1_15_16 (by kernel_rfl) (by kernel_rfl) (by kernel_rfl) (fun _ _ _ h => h) (Or.inl ⟨?g1_15_16, ?y1_15_16⟩) hS ?_
      case i1_15_16 => simp only [List.getElem?_toArray, List.getElem?_cons_succ, List.getElem?_cons_zero]; rfl
      case g1_15_16 => rfl
      case y1_15_16 => (intro w hSw; (go_simp <;> with_reducible rfl))
      (try simp only [Act.put, List.setIfInBounds_toArray, List.set_cons_zero, List.set_cons_succ])
      refine wpAnyH_take (i := 16) (oi := ?o1_16_17) (v := ?v1_16_17) ?i1_16_17 (by kernel_rfl) (by kernel_rfl) (by kernel_rfl) (fun _ _ _ h => h) (Or.inl ⟨?g1_16_17, ?y1_16_17⟩) hS ?_
      case i1_16_17 => simp only [List.getElem?_toArray, List.getElem?_cons_succ, List.getElem?_cons_zero]; rfl
      case g1_16_17 => rfl
      case y1_16_17 => (intro w hSw; (go_simp <;> with_reducible rfl))
      (try simp only [Act.put, List.setIfInBounds_toArray, List.set_cons_zero, List.set_cons_succ])
      refine wpAnyH_done (by kernel_rfl) ?_ _
      refine NoPanic.normal ?_
      have hB6 := hBd.trans (hb6.mono hBd.size)
      clear hb6 hBd hS hC0 hC2
      go_wp2
      go_roundw
      case rel => exact ⟨j + 1, x + (d.length / 100 + k.wt), by omega, by go_num, by rw [← HSUM.out], HN, hB6⟩
      case measure => simp [intOf]; omega
    · obtain rfl : j = f.len := by omega
      have hxe : (x : Int) = (f.wt : Int) := by
        have h := HX.out
        rw [Fo.take_all] at h
        rw [h, HW.out]
      have HXE := Lib.hid hxe
      clear hxe hlt
      go_wp2
      go_ret
      exact ⟨by rw [← HXE.out]; rfl, hB⟩

end Go.Proofs.Ytdpaijechogmlaa
