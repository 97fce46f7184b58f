/- TlvSame TlvCheck TlvSpec TlvFnD TlvFnE -/
import Derived.Test.YtodlhgflfcadmaaGreatUM33
set_option linter.unusedSimpArgs false
set_option linter.unusedVariables false
set_option maxRecDepth 100000
set_option maxHeartbeats 8000000
namespace Go.Proofs.YtodlhgflfcadmaaGreat
open Go.RowKit
section
attribute [local go_sem ↓] Go.wp_at_zero Go.wp_at_succ
def SamePost (a b : Fo) (w : World) (r : Ending) (w' : World) : Prop := r = .returned (.bool (decide (a = b))) ∧ Below w.heap.size w w'
theorem Fo.same_step {a b : Fo} {j t t' : Nat} {d d' : List UInt8} {k k' : Fo} (h1 : Fo.take (j + 1) a = (Fo.take j a).app (.cons t d k .nil)) (h2 : Fo.take (j + 1) b = (Fo.take j b).app (.cons t' d' k' .nil)) (h : Fo.take j a = Fo.take j b) (ht : t = t') (hd : d = d') (hk : k = k') : Fo.take (j + 1) a = Fo.take (j + 1) b := by
 subst ht hd hk
 rw [h1, h2, h]
theorem Fo.same_not {a b : Fo} {j t t' : Nat} {d d' : List UInt8} {k k' : Fo} (h1 : Fo.drop j a = .cons t d k (Fo.drop (j + 1) a)) (h2 : Fo.drop j b = .cons t' d' k' (Fo.drop (j + 1) b)) (h : ¬ (t = t' ∧ d = d' ∧ k = k')) : decide (a = b) = false := by
 refine decide_eq_false (fun e => h ?_)
 subst e
 rw [h1] at h2
 injection h2 with e1 e2 e3
 exact ⟨e1, e2, e3⟩
theorem same_any (a : Fo) : ∀ (b : Fo) (w : World) (va vb : Value), FV DataR w (Lo w) va a → FV DataR w (Lo w) vb b → a.sz ≤ 1099511627776 → Calls Tryz.prog 11 #[va, vb] w (SamePost a b w) := by
 refine Fo.byKids (P := fun a => ∀ (b : Fo) (w : World) (va vb : Value), FV DataR w (Lo w) va a → FV DataR w (Lo w) vb b → a.sz ≤ 1099511627776 → Calls Tryz.prog 11 #[va, vb] w (SamePost a b w)) ?_ a
 clear a
 intro a hkids b w va vb hva hvb hsz
 obtain ⟨A, c, rfl⟩ := hva.shape
 obtain ⟨A', c', rfl⟩ := hvb.shape
 have hws := a.wt_le_sz
 have hlw := a.len_le_wt
 have hlen40 : a.len ≤ 1099511627776 := by omega
 have HK : Hid (Fo.kidsAll (fun a => ∀ (b : Fo) (w : World) (va vb : Value), FV DataR w (Lo w) va a → FV DataR w (Lo w) vb b → a.sz ≤ 1099511627776 → Calls Tryz.prog 11 #[va, vb] w (SamePost a b w)) a) := hHd hkids
 clear hkids hws hlw
 by_cases hll : a.len = b.len
 ·have hlb : ((a.len : Int) == (b.len : Int)) = true := by rw [hll]; simp
  have hlb2 : ((a.len : Int) != (b.len : Int)) = false := by rw [hll]; simp
  have hle : a.len ≤ b.len := by omega
  have hge : b.len ≤ a.len := by omega
  clear hll
  go_enter Tryz.func11, Tryz.ntmps11
  go_wp2
  go_loopw [5] (fun i wr => ∃ (j : Nat), j ≤ a.len ∧ i = .int .i64 (j : Int) ∧ Hid (Fo.take j a = Fo.take j b) ∧ Below w.heap.size w wr) (fun i _ => a.len - (intOf i).toNat)
  case atStart => exact ⟨0, Nat.zero_le _, rfl, hHd rfl, Below.refl _ _⟩
  case round =>
   obtain ⟨j, hj, rfl, HT, hB⟩ := hrel
   by_cases hlt : j < a.len
   ·obtain ⟨g, o, c1', t, d, k, hve, hcap, hS, hdr, htk, ht64, hc0, ⟨dv, hc1, hdv⟩, ⟨kv, hc2, hkv⟩⟩ := hva.at hlt
    obtain ⟨g', o', c2', t', d', k', hve', hcap', hS', hdr', htk', ht64', hc0', ⟨dv', hc1', hdv'⟩, ⟨kv', hc2', hkv'⟩⟩ := hvb.at (show j < b.len by omega)
    injection hve with e1 e2 e3
    injection hve' with e4 e5 e6
    subst e1 e3 e4 e6
    have hSb : g < w.heap.size := hS
    have hSb' : g' < w.heap.size := hS'
    have hdv1 : dv = .string (txt d) := hdv
    have hdv2 : dv' = .string (txt d') := hdv'
    subst hdv1 hdv2
    have hdrop : (Fo.drop j a).sz ≤ a.sz := by
     have h := Fo.sz_app (Fo.take j a) (Fo.drop j a)
     rw [Fo.take_app_drop] at h
     omega
    rw [hdr] at hdrop
    simp only [Fo.sz] at hdrop
    have hIH := Fo.kidsAll_drop j HK.out
    rw [hdr] at hIH
    have hBd := hB.drew
    have hks40 : k.sz ≤ 1099511627776 := by omega
    have hkv2 : FV DataR wr.drew (Lo wr.drew) kv k := hkv.kept stays_R (fun g hg => hBd.block g hg) (fun _ hg => Nat.lt_of_lt_of_le hg hBd.size)
    have hkv3 : FV DataR wr.drew (Lo wr.drew) kv' k' := hkv'.kept stays_R (fun g hg => hBd.block g hg) (fun _ hg => Nat.lt_of_lt_of_le hg hBd.size)
    have HI := hHd (hIH.1 k' wr.drew kv kv' hkv2 hkv3 hks40)
    have HNOT : Hid (¬ (t = t' ∧ d = d' ∧ k = k') → decide (a = b) = false) := hHd (Fo.same_not hdr hdr')
    have HSTEP : Hid (t = t' → d = d' → k = k' → Fo.take (j + 1) a = Fo.take (j + 1) b) := hHd (Fo.same_step htk htk' HT.out)
    have i1 : (0 : Int) ≤ (j : Int) := by omega
    have i2 : (j : Int) < (a.len : Int) := by omega
    have i3 : (j : Int) < (b.len : Int) := by omega
    have q0 : wr.drew.cell? ⟨g, o + j * 3, none⟩ = some (.int .u64 (t : Int)) := (hBd.cell (p := ⟨g, o + j * 3, none⟩) hSb).trans hc0
    have q1 : wr.drew.cell? ⟨g, o + j * 3 + 1, none⟩ = some (.string (txt d)) := (hBd.cell (p := ⟨g, o + j * 3 + 1, none⟩) hSb).trans hc1
    have q2 : wr.drew.cell? ⟨g, o + j * 3 + 2, none⟩ = some kv := (hBd.cell (p := ⟨g, o + j * 3 + 2, none⟩) hSb).trans hc2
    have q3 : wr.drew.cell? ⟨g', o' + j * 3, none⟩ = some (.int .u64 (t' : Int)) := (hBd.cell (p := ⟨g', o' + j * 3, none⟩) hSb').trans hc0'
    have q4 : wr.drew.cell? ⟨g', o' + j * 3 + 1, none⟩ = some (.string (txt d')) := (hBd.cell (p := ⟨g', o' + j * 3 + 1, none⟩) hSb').trans hc1'
    have q5 : wr.drew.cell? ⟨g', o' + j * 3 + 2, none⟩ = some kv' := (hBd.cell (p := ⟨g', o' + j * 3 + 2, none⟩) hSb').trans hc2'
    clear hIH hkv hkv' hkv2 hkv3 hdr hdr' htk htk' hc0 hc1 hc2 hc0' hc1' hc2' e2 e5 hS hS' hdrop hsz hdv hdv' ht64 ht64'
    go_wp2_with fail
    refine wp_region_noPanic ?_
    refine wp_region_held_drew (S := fun _ => True) (by kernel_rfl) trivial (fun hS => ?_)
    refine tkH 0 hS ?_
    refine tkH 1 hS ?_
    refine tkH 2 hS ?_
    refine tkH 3 hS ?_
    refine held_more (S' := fun w' => w'.cell? ⟨g, o + j * 3 + 2, none⟩ = some kv ∧ w'.cell? ⟨g', o' + j * 3 + 2, none⟩ = some kv') (fun _ _ => trivial) _ _ _ _ ?_
    replace hS := And.intro q2 q5
    refine tkH 4 hS ?_ (hy := fun w hSw => by have hc := hSw.1; (go_simp <;> with_reducible rfl))
    refine tkH 5 hS ?_
    refine tkH 6 hS ?_
    refine tkH 7 hS ?_
    refine tkH 8 hS ?_
    refine tkH 9 hS ?_ (hy := fun w hSw => by have hc := hSw.2; (go_simp <;> with_reducible rfl))
    refine rdy1 10 fun K hK => ?_
    go_simp
    refine HI.out.mono ?_
    rintro r w6 ⟨rfl, hb6⟩
    go_wp2_with fail
    refine hK.out _ _ ?s_0 (fun hS => ?_)
    case s_0 => (exact ⟨(hb6.cell (p := ⟨g, o + j * 3 + 2, none⟩) (Nat.lt_of_lt_of_le hSb hBd.size)).trans hS.1, (hb6.cell (p := ⟨g', o' + j * 3 + 2, none⟩) (Nat.lt_of_lt_of_le hSb' hBd.size)).trans hS.2⟩)
    clear hK K
    (try simp only [Act.put, layS])
    refine tkH 11 hS ?_
    refine wpAnyH_done (by kernel_rfl) ?_ _
    refine NoPanic.normal ?_
    have z1 := hBd.size
    have hBe := (hBd.trans (hb6.mono hBd.size)).drew
    have r0 : w6.drew.cell? ⟨g, o + j * 3, none⟩ = some (.int .u64 (t : Int)) := (hb6.drew.cell (p := ⟨g, o + j * 3, none⟩) (Nat.lt_of_lt_of_le hSb hBd.size)).trans q0
    have r1 : w6.drew.cell? ⟨g, o + j * 3 + 1, none⟩ = some (.string (txt d)) := (hb6.drew.cell (p := ⟨g, o + j * 3 + 1, none⟩) (Nat.lt_of_lt_of_le hSb hBd.size)).trans q1
    have r3 : w6.drew.cell? ⟨g', o' + j * 3, none⟩ = some (.int .u64 (t' : Int)) := (hb6.drew.cell (p := ⟨g', o' + j * 3, none⟩) (Nat.lt_of_lt_of_le hSb' hBd.size)).trans q3
    have r4 : w6.drew.cell? ⟨g', o' + j * 3 + 1, none⟩ = some (.string (txt d')) := (hb6.drew.cell (p := ⟨g', o' + j * 3 + 1, none⟩) (Nat.lt_of_lt_of_le hSb' hBd.size)).trans q4
    clear hS q0 q1 q2 q3 q4 q5 hb6 hBd hB
    by_cases htt : t = t'
    ·by_cases hdd : d = d'
     ·by_cases hkk : k = k'
      ·have hkb : decide (k = k') = true := decide_eq_true hkk
       have HZ := hHd (HSTEP.out htt hdd hkk)
       subst htt hdd
       clear hkk
       go_wp2_with fail
       refine wp_region_noPanic ?_
       refine wp_region_held_drew (S := fun _ => True) (by kernel_rfl) trivial (fun hS => ?_)
       refine tkH 0 hS ?_
       refine tkH 1 hS ?_
       refine tkH 2 hS ?_
       refine tkH 3 hS ?_
       refine held_more (S' := fun w' => w'.cell? ⟨g, o + j * 3, none⟩ = some (.int .u64 (t : Int)) ∧ w'.cell? ⟨g', o' + j * 3, none⟩ = some (.int .u64 (t : Int)) ∧ w'.cell? ⟨g, o + j * 3 + 1, none⟩ = some (.string (txt d)) ∧ w'.cell? ⟨g', o' + j * 3 + 1, none⟩ = some (.string (txt d))) (fun _ _ => trivial) _ _ _ _ ?_
       replace hS := And.intro r0 (And.intro r3 (And.intro r1 r4))
       refine tkH 4 hS ?_ (hy := fun w hSw => by have hc := hSw.1; (go_simp <;> with_reducible rfl))
       refine tkH 5 hS ?_
       refine tkH 6 hS ?_
       refine tkH 7 hS ?_
       refine tkH 8 hS ?_
       refine tkH 9 hS ?_ (hy := fun w hSw => by have hc := hSw.2.1; (go_simp <;> with_reducible rfl))
       refine tkH 10 hS ?_
       refine tkH 11 hS ?_
       refine tkH 12 hS ?_
       refine tkH 13 hS ?_
       refine tkH 14 hS ?_
       refine tkH 15 hS ?_
       refine tkH 16 hS ?_ (hy := fun w hSw => by have hc := hSw.2.2.1; (go_simp <;> with_reducible rfl))
       refine tkH 17 hS ?_
       refine tkH 18 hS ?_
       refine tkH 19 hS ?_
       refine tkH 20 hS ?_
       refine tkH 21 hS ?_ (hy := fun w hSw => by have hc := hSw.2.2.2; (go_simp <;> with_reducible rfl))
       refine tkH 22 hS ?_
       refine tkH 23 hS ?_
       refine tkH 24 hS ?_
       refine tkH 25 hS ?_
       refine tkH 26 hS ?_
       refine tkH 27 hS ?_
       refine wpAnyH_done (by kernel_rfl) ?_ _
       refine NoPanic.normal ?_
       clear hS r0 r1 r3 r4
       go_wp2
       go_roundw
       case rel => first | exact ⟨j + 1, by omega, by go_num, HZ, hBe⟩ | ((repeat apply Exists.intro); exact ⟨⟨by omega, by go_num, HZ, hBe⟩, rfl⟩) | (trace_state; fail)
       case measure => simp [intOf]; omega
      ·have hkb : decide (k = k') = false := decide_eq_false hkk
       have HZ := hHd (HNOT.out (fun h => hkk h.2.2))
       subst htt hdd
       clear hkk
       go_wp2_with fail
       refine wp_region_noPanic ?_
       refine wp_region_held_drew (S := fun _ => True) (by kernel_rfl) trivial (fun hS => ?_)
       refine tkH 0 hS ?_
       refine tkH 1 hS ?_
       refine tkH 2 hS ?_
       refine tkH 3 hS ?_
       refine held_more (S' := fun w' => w'.cell? ⟨g, o + j * 3, none⟩ = some (.int .u64 (t : Int)) ∧ w'.cell? ⟨g', o' + j * 3, none⟩ = some (.int .u64 (t : Int)) ∧ w'.cell? ⟨g, o + j * 3 + 1, none⟩ = some (.string (txt d)) ∧ w'.cell? ⟨g', o' + j * 3 + 1, none⟩ = some (.string (txt d))) (fun _ _ => trivial) _ _ _ _ ?_
       replace hS := And.intro r0 (And.intro r3 (And.intro r1 r4))
       refine tkH 4 hS ?_ (hy := fun w hSw => by have hc := hSw.1; (go_simp <;> with_reducible rfl))
       refine tkH 5 hS ?_
       refine tkH 6 hS ?_
       refine tkH 7 hS ?_
       refine tkH 8 hS ?_
       refine tkH 9 hS ?_ (hy := fun w hSw => by have hc := hSw.2.1; (go_simp <;> with_reducible rfl))
       refine tkH 10 hS ?_
       refine tkH 11 hS ?_
       refine tkH 12 hS ?_
       refine tkH 13 hS ?_
       refine tkH 14 hS ?_
       refine tkH 15 hS ?_
       refine tkH 16 hS ?_ (hy := fun w hSw => by have hc := hSw.2.2.1; (go_simp <;> with_reducible rfl))
       refine tkH 17 hS ?_
       refine tkH 18 hS ?_
       refine tkH 19 hS ?_
       refine tkH 20 hS ?_
       refine tkH 21 hS ?_ (hy := fun w hSw => by have hc := hSw.2.2.2; (go_simp <;> with_reducible rfl))
       refine tkH 22 hS ?_
       refine tkH 23 hS ?_
       refine tkH 24 hS ?_
       refine tkH 25 hS ?_
       refine tkH 26 hS ?_
       refine tkH 27 hS ?_
       refine wpAnyH_done (by kernel_rfl) ?_ _
       refine NoPanic.normal ?_
       clear hS r0 r1 r3 r4
       go_wp2
       go_ret
       exact ⟨by rw [HZ.out]; rfl, hBe⟩
     ·have hdb : ((txt d).toList == (txt d').toList) = false := by rw [txt_toList, txt_toList]; exact beq_eq_false_iff_ne.2 hdd
      have HZ := hHd (HNOT.out (fun h => hdd h.2.1))
      have hdb2 : ((txt d).toList != (txt d').toList) = true := by unfold bne; rw [hdb]; rfl
      subst htt
      clear hdd
      go_wp2_with fail
      refine wp_region_noPanic ?_
      refine wp_region_held_drew (S := fun _ => True) (by kernel_rfl) trivial (fun hS => ?_)
      refine tkH 0 hS ?_
      refine tkH 1 hS ?_
      refine tkH 2 hS ?_
      refine tkH 3 hS ?_
      refine held_more (S' := fun w' => w'.cell? ⟨g, o + j * 3, none⟩ = some (.int .u64 (t : Int)) ∧ w'.cell? ⟨g', o' + j * 3, none⟩ = some (.int .u64 (t : Int)) ∧ w'.cell? ⟨g, o + j * 3 + 1, none⟩ = some (.string (txt d)) ∧ w'.cell? ⟨g', o' + j * 3 + 1, none⟩ = some (.string (txt d'))) (fun _ _ => trivial) _ _ _ _ ?_
      replace hS := And.intro r0 (And.intro r3 (And.intro r1 r4))
      refine tkH 4 hS ?_ (hy := fun w hSw => by have hc := hSw.1; (go_simp <;> with_reducible rfl))
      refine tkH 5 hS ?_
      refine tkH 6 hS ?_
      refine tkH 7 hS ?_
      refine tkH 8 hS ?_
      refine tkH 9 hS ?_ (hy := fun w hSw => by have hc := hSw.2.1; (go_simp <;> with_reducible rfl))
      refine tkH 10 hS ?_
      refine tkH 11 hS ?_
      refine tkH 12 hS ?_
      refine tkH 13 hS ?_
      refine tkH 14 hS ?_
      refine tkH 15 hS ?_
      refine tkH 16 hS ?_ (hy := fun w hSw => by have hc := hSw.2.2.1; (go_simp <;> with_reducible rfl))
      refine tkH 17 hS ?_
      refine tkH 18 hS ?_
      refine tkH 19 hS ?_
      refine tkH 20 hS ?_
      refine tkH 21 hS ?_ (hy := fun w hSw => by have hc := hSw.2.2.2; (go_simp <;> with_reducible rfl))
      refine tkH 22 hS ?_
      refine tkH 23 hS ?_
      refine tkH 24 hS ?_
      refine tkHo 25 hS ?_
      refine tkHo 26 hS ?_
      refine tkH 27 hS ?_
      refine wpAnyH_done (by kernel_rfl) ?_ _
      refine NoPanic.normal ?_
      clear hS r0 r1 r3 r4
      go_wp2
      go_ret
      exact ⟨by rw [HZ.out]; rfl, hBe⟩
    ·have htb : ((t : Int) == (t' : Int)) = false := beq_eq_false_iff_ne.2 (by omega)
     have htb2 : ((t : Int) != (t' : Int)) = true := by unfold bne; rw [htb]; rfl
     have HZ := hHd (HNOT.out (fun h => htt h.1))
     clear htt
     go_wp2_with fail
     refine wp_region_noPanic ?_
     refine wp_region_held_drew (S := fun _ => True) (by kernel_rfl) trivial (fun hS => ?_)
     refine tkH 0 hS ?_
     refine tkH 1 hS ?_
     refine tkH 2 hS ?_
     refine tkH 3 hS ?_
     refine held_more (S' := fun w' => w'.cell? ⟨g, o + j * 3, none⟩ = some (.int .u64 (t : Int)) ∧ w'.cell? ⟨g', o' + j * 3, none⟩ = some (.int .u64 (t' : Int))) (fun _ _ => trivial) _ _ _ _ ?_
     replace hS := And.intro r0 r3
     refine tkH 4 hS ?_ (hy := fun w hSw => by have hc := hSw.1; (go_simp <;> with_reducible rfl))
     refine tkH 5 hS ?_
     refine tkH 6 hS ?_
     refine tkH 7 hS ?_
     refine tkH 8 hS ?_
     refine tkH 9 hS ?_ (hy := fun w hSw => by have hc := hSw.2; (go_simp <;> with_reducible rfl))
     refine tkH 10 hS ?_
     refine tkH 11 hS ?_
     refine tkHo 12 hS ?_
     refine tkHo 13 hS ?_
     refine tkHo 14 hS ?_
     refine tkHo 15 hS ?_
     refine tkHo 16 hS ?_
     refine tkHo 17 hS ?_
     refine tkHo 18 hS ?_
     refine tkHo 19 hS ?_
     refine tkHo 20 hS ?_
     refine tkHo 21 hS ?_
     refine tkHo 22 hS ?_
     refine tkH 23 hS ?_
     refine tkH 24 hS ?_
     refine tkHo 25 hS ?_
     refine tkHo 26 hS ?_
     refine tkH 27 hS ?_
     refine wpAnyH_done (by kernel_rfl) ?_ _
     refine NoPanic.normal ?_
     clear hS r0 r1 r3 r4
     go_wp2
     go_ret
     exact ⟨by rw [HZ.out]; rfl, hBe⟩
   ·obtain rfl : j = a.len := by omega
    have hab : a = b := by
     have h := HT.out
     rw [Fo.take_all] at h
     have h2 : Fo.take a.len b = b := by
      have h3 : a.len = b.len := by omega
      rw [h3, Fo.take_all]
     rw [h2] at h
     exact h
    have HZ : Hid (decide (a = b) = true) := hHd (decide_eq_true hab)
    clear hab hlt
    go_wp2
    go_ret
    exact ⟨by rw [HZ.out]; rfl, hB⟩
 ·have hlb : ((a.len : Int) == (b.len : Int)) = false := beq_eq_false_iff_ne.2 (by omega)
  have HZ : Hid (decide (a = b) = false) := hHd (decide_eq_false (fun h => hll (by rw [h])))
  clear hll
  go_enter Tryz.func11, Tryz.ntmps11
  go_wp2
  go_ret
  exact ⟨by rw [HZ.out]; rfl, Below.refl _ _⟩
end
def Fo.ok (f : Fo) : Bool := Fo.right 1 f && decide (f.all.length ≤ 8192)
def RCheckPost (f : Fo) (w : World) (r : Ending) (w' : World) : Prop := r = .returned (.bool f.ok) ∧ Below w.heap.size w w'
theorem rcheck_any (f : Fo) (w : World) (v : Value) (hv : FV DataR w (Lo w) v f) (hsz : f.sz ≤ 1099511627776) : Calls Tryz.prog 37 #[v] w (RCheckPost f w) := by
 have hs := txt_size f.all
 cases hr : Fo.right 1 f with
 | false =>
  have HO : Hid (f.ok = false) := hHd (by unfold Fo.ok; rw [hr]; rfl)
  have HC : Hid (Calls Tryz.prog 65 #[v, .int .i64 1] w (fun r w' => r = .returned (.bool false) ∧ Below w.heap.size w w')) := hHd (by
   have h := right_any f w v 1 1 hv hsz (by omega) rfl
   unfold RightPost at h
   rw [hr] at h
   exact h)
  clear hr
  go_enter Tryz.func37, Tryz.ntmps37
  go_wp2_with fail
  refine HC.out.mono ?_
  rintro r w1 ⟨rfl, hb⟩
  go_wp2
  go_ret
  exact ⟨by rw [HO.out]; rfl, hb⟩
 | true =>
  have HO : Hid (f.ok = decide (f.all.length ≤ 8192)) := hHd (by unfold Fo.ok; rw [hr]; rfl)
  have HC : Hid (Calls Tryz.prog 65 #[v, .int .i64 1] w (fun r w' => r = .returned (.bool true) ∧ Below w.heap.size w w')) := hHd (by
   have h := right_any f w v 1 1 hv hsz (by omega) rfl
   unfold RightPost at h
   rw [hr] at h
   exact h)
  clear hr
  have hdd : decide ((f.all.length : Int) ≤ 8192) = decide (f.all.length ≤ 8192) := by
   by_cases h : f.all.length ≤ 8192
   ·rw [decide_eq_true h, decide_eq_true (by omega)]
   ·rw [decide_eq_false h, decide_eq_false (by omega)]
  have HD := hHd hdd
  clear hdd
  go_enter Tryz.func37, Tryz.ntmps37
  go_wp2_with fail
  refine HC.out.mono ?_
  rintro r w1 ⟨rfl, hb⟩
  have hv1 := FV.below stays_R hv hb
  go_wp2_with fail
  refine (all_any f _ _ hv1 hsz).mono ?_
  rintro r w2 ⟨rfl, hb2⟩
  have hB := hb.trans (hb2.mono hb.size)
  clear hb hb2 hv1 hv
  go_wp2
  go_ret
  refine ⟨?_, hB⟩
  rw [HO.out, ← HD.out]
  rfl
def putOut (f : Fo) : Ending := if f.ok then .returned (.tuple #[.string (txt f.all), .int .i64 0]) else .returned (.tuple #[.string ⟨#[]⟩, .int .i64 1])
def RPut3Post (f : Fo) (w : World) (r : Ending) (w' : World) : Prop := r = putOut f ∧ Below w.heap.size w w'
theorem rput3_any (f : Fo) (w : World) (v : Value) (hv : FV DataR w (Lo w) v f) (hsz : f.sz ≤ 1099511627776) : Calls Tryz.prog 22 #[v] w (RPut3Post f w) := by
 cases hr : f.ok with
 | false =>
  have HO : Hid (putOut f = .returned (.tuple #[.string ⟨#[]⟩, .int .i64 1])) := hHd (by unfold putOut; rw [hr]; rfl)
  have HC : Hid (Calls Tryz.prog 37 #[v] w (fun r w' => r = .returned (.bool false) ∧ Below w.heap.size w w')) := hHd (by
   have h := rcheck_any f w v hv hsz
   unfold RCheckPost at h
   rw [hr] at h
   exact h)
  clear hr
  go_enter Tryz.func22, Tryz.ntmps22
  go_wp2_with fail
  refine HC.out.mono ?_
  rintro r w1 ⟨rfl, hb⟩
  go_wp2
  go_ret2
  exact ⟨by rw [HO.out]; rfl, hb⟩
 | true =>
  have HO : Hid (putOut f = .returned (.tuple #[.string (txt f.all), .int .i64 0])) := hHd (by unfold putOut; rw [hr]; rfl)
  have HC : Hid (Calls Tryz.prog 37 #[v] w (fun r w' => r = .returned (.bool true) ∧ Below w.heap.size w w')) := hHd (by
   have h := rcheck_any f w v hv hsz
   unfold RCheckPost at h
   rw [hr] at h
   exact h)
  clear hr
  go_enter Tryz.func22, Tryz.ntmps22
  go_wp2_with fail
  refine HC.out.mono ?_
  rintro r w1 ⟨rfl, hb⟩
  have hv1 := FV.below stays_R hv hb
  go_wp2_with fail
  refine (all_any f _ _ hv1 hsz).mono ?_
  rintro r w2 ⟨rfl, hb2⟩
  have hB := hb.trans (hb2.mono hb.size)
  clear hb hb2 hv1 hv
  go_wp2
  go_ret2
  exact ⟨by rw [HO.out]; rfl, hB⟩
def CheckC : Prop := ∀ (f : Fo) (w : World) (v : Value), FV DataI w (Lo w) v f → f.sz ≤ 1099511627776 → Calls Tryz.prog 57 #[v] w (fun r w' => r = .returned (.bool f.ok) ∧ Below w.heap.size w w')
def PutP (f : Fo) (w : World) (r : Ending) (w' : World) : Prop :=
 ∃ v, r = .returned (.tuple #[v, .int .i64 (if f.ok = true then 0 else 1)]) ∧ Own w' w.heap.size v (if f.ok = true then f.all else []) ∧ Below w.heap.size w w'
def PutC : Prop := ∀ (f : Fo) (w : World) (v : Value), FV DataI w (Lo w) v f → f.sz ≤ 1099511627776 → Calls Tryz.prog 32 #[v] w (PutP f w)
section
variable {D : World → (Nat → Prop) → Value → List UInt8 → Prop} {w w' : World} {S : Nat → Prop}
theorem FV.lo {base : Nat} {v : Value} {f : Fo} (hD : Stays D) (h : FV D w (MineI base w) v f) : FV D w (Lo w) v f := h.kept hD (fun _ _ => rfl) (fun _ hg => hg.2)
theorem FV.one {b : Nat} {e : TypeId} {t : Nat} {d : List UInt8} {k : Fo} {dv kv : Value} (hb : Blk w b e #[.int .u64 (t : Int), dv, kv]) (hS : S b) (ht : t < 18446744073709551616) (hd : D w S dv d) (hk : FV D w S kv k) :
  FV D w S (.slice (some ⟨b, 0, none⟩) 1 1) (.cons t d k .nil) := by
 obtain ⟨A, c, rfl, h1, h2⟩ := hk
 refine ⟨_, 1, rfl, Nat.le_refl _, fun _ => ⟨b, 0, rfl, hS, ?_, ht, ⟨dv, ?_, hd⟩, ⟨A, c, ?_, h1, h2⟩, trivial⟩⟩
 ·rw [hb.cell]; rfl
 ·rw [hb.cell]; rfl
 ·rw [hb.cell]; rfl
theorem FV.item {v : Value} {t : Nat} {d : List UInt8} {k : Fo} (h : FV D w S v (.cons t d k .nil)) :
  ∃ b o c kv, v = .slice (some ⟨b, o, none⟩) 1 c ∧ 1 ≤ c ∧ S b ∧ w.cell? ⟨b, o + 2, none⟩ = some kv ∧ FV D w S kv k := by
 obtain ⟨A, c, rfl, h1, h2⟩ := h
 obtain ⟨b, o, rfl, h3, h4⟩ := h2 (by simp [Fo.len])
 obtain ⟨_, _, _, ⟨A', c', h5, h6, h7⟩, _⟩ := h4
 exact ⟨b, o, c, _, rfl, h1, h3, h5, A', c', rfl, h6, h7⟩
end
theorem lo_lt {w w' : World} {v : Value} {f : Fo} (h : FV DataI w (Lo w) v f) (hb : Below w.heap.size w w') : FV DataI w' (Lt w.heap.size) v f := h.kept stays_I (fun g hg => hb.block g hg) (fun _ hg => hg)
theorem below_of_grownI {w w0 w' : World} {g : Nat} (h0 : Below w.heap.size w w0) (hg : w0.grownBy w' (some g)) (hw : w.heap.size ≤ g) : Below w.heap.size w w' := by
 refine h0.grown hg h0.size fun k e => ?_
 injection e with e
 omega
def SizeO (f : Fo) (w : World) (r : Ending) (w' : World) : Prop := r = .returned (.int .i64 (f.all.length : Int)) ∧ Below w.heap.size w w'
theorem size_cnt (f : Fo) (w : World) (v : Value) (hv : FV DataI w (Lo w) v f) (hsz : f.sz ≤ 1099511627776) (hc : f.cnt ≤ 60000) : Calls Tryz.prog 31 #[v] w (SizeO f w) := by
 have hmf : ∀ (fn : Fn) (first cap : Array Value) (w : World), (Instr.makeFunc fn first cap).run Tryz.prog w = .ok (.func fn first cap) w := fun _ _ _ _ => rfl
 obtain ⟨A, c, rfl⟩ := hv.shape
 go_enter Tryz.func31, Tryz.ntmps31
 go_wp2_with fail
 have b1 : Blk (w.alloc (.cells #[.int .i64 0] 3)) w.heap.size 3 #[.int .i64 ((0 : Nat) : Int)] := Blk.new _ _ _
 have b2 := Blk.new (w.alloc (.cells #[.int .i64 0] 3)) 97 #[.func (.func 54) #[] #[.pointer (some ⟨w.heap.size, 0, none⟩), .pointer (some ⟨w.heap.size + 1, 0, none⟩)]]
 rw [World.size_alloc] at b2
 have hB' : Below w.heap.size w ((w.alloc (.cells #[.int .i64 0] 3)).alloc (.cells #[.func (.func 54) #[] #[.pointer (some ⟨w.heap.size, 0, none⟩), .pointer (some ⟨w.heap.size + 1, 0, none⟩)]] 97)) := ((Below.refl _ w).alloc (Nat.le_refl _) _).alloc (by simp) _
 have hv' := lo_lt hv hB'
 have z := hB'.size
 refine (size1_any f _ _ w.heap.size w.heap.size (w.heap.size + 1) 1 0 1 hv' hsz (by omega) (by omega) rfl (Nat.le_refl _) (by omega) z (by omega) (b1.alloc _) b2).mono ?_
 rintro r w1 ⟨rfl, hg, q, -, -⟩
 have hB1 := below_of_grownI hB' hg (Nat.le_refl _)
 clear hg hB' hv'
 go_wp2
 go_ret
 exact ⟨rfl, hB1⟩
theorem checkC : CheckC := by
 intro f w v hv hsz
 have hmf : ∀ (fn : Fn) (first cap : Array Value) (w : World), (Instr.makeFunc fn first cap).run Tryz.prog w = .ok (.func fn first cap) w := fun _ _ _ _ => rfl
 obtain ⟨A, c, rfl⟩ := hv.shape
 have HO : Hid (f.ok = (Fo.right 1 f && decide (f.all.length ≤ 8192))) := hHd rfl
 have hal : f.all.length ≤ 22000000000000 := by have := f.all_le; omega
 go_enter Tryz.func57, Tryz.ntmps57
 go_wp2_with fail
 have b1 : Blk (w.alloc (.cells #[.int .i64 0] 3)) w.heap.size 3 #[.int .i64 ((0 : Nat) : Int)] := Blk.new _ _ _
 have b2 := Blk.new (w.alloc (.cells #[.int .i64 0] 3)) 139 #[.func (.func 90) #[] #[.pointer (some ⟨w.heap.size, 0, none⟩), .pointer (some ⟨w.heap.size + 1, 0, none⟩)]]
 rw [World.size_alloc] at b2
 have hB' : Below w.heap.size w ((w.alloc (.cells #[.int .i64 0] 3)).alloc (.cells #[.func (.func 90) #[] #[.pointer (some ⟨w.heap.size, 0, none⟩), .pointer (some ⟨w.heap.size + 1, 0, none⟩)]] 139)) := ((Below.refl _ w).alloc (Nat.le_refl _) _).alloc (by simp) _
 have hv' := lo_lt hv hB'
 have z := hB'.size
 refine (sound_any f _ _ w.heap.size w.heap.size (w.heap.size + 1) 1 0 1 hv' hsz (by omega) rfl (by omega) (Nat.le_refl _) (by omega) z (by omega) (b1.alloc _) b2).mono ?_
 rintro r w1 ⟨b, rfl, hb, hg, -⟩
 have hB1 := below_of_grownI hB' hg (Nat.le_refl _)
 have HB := hHd hb
 clear hg hB' hv' b1 b2 z hb
 cases b with
 | false =>
  have HP : Hid (f.ok = false) := hHd (by
   rw [HO.out]
   cases hr : Fo.right 1 f with
   | false => rfl
   | true =>
    have h := HB.out
    rw [hr, Bool.true_and] at h
    have h2 : ¬ 0 + f.cnt ≤ 4096 := of_decide_eq_false h.symm
    have h3 := Fo.cnt_all f 1 hr
    rw [Bool.true_and, show decide (f.all.length ≤ 8192) = false from decide_eq_false (by omega)])
  go_wp2
  go_ret
  exact ⟨by rw [HP.out]; rfl, hB1⟩
 | true =>
  have h := HB.out.symm
  rw [Bool.and_eq_true, decide_eq_true_eq] at h
  obtain ⟨hr, hcn⟩ := h
  have HP : Hid (f.ok = decide ((f.all.length : Int) ≤ 8192)) := hHd (by
   rw [HO.out, hr, Bool.true_and]
   rw [Bool.eq_iff_iff]; simp; omega)
  have hv1 : FV DataI w1 (Lo w1) (.slice A f.len c) f := hv.kept stays_I (fun g hg => hB1.block g hg) (fun _ hg => Nat.lt_of_lt_of_le hg hB1.size)
  have HC := hHd (size_cnt f w1 _ hv1 hsz (by omega))
  clear hr hcn hv1
  go_wp2_with fail
  refine HC.out.mono ?_
  rintro r w2 ⟨rfl, hb2⟩
  go_wp2
  go_ret
  exact ⟨by rw [HP.out]; rfl, hB1.trans (hb2.mono hB1.size)⟩
def SelfE (w : World) (eb : Nat) : Prop := Blk w eb 99 #[.func (.func 58) #[] #[.pointer (some ⟨eb, 0, none⟩)]]
def Else (dc : Nat) (C : List UInt8) (u : Value) : Prop := ∀ k, u.ownBlock = some k → 0 < C.length → dc ≠ k
theorem app_else {w w' : World} {base dc : Nat} {u v' cv : Value} {C l : List UInt8} (hap : AppPost w base u l v' w') (hrc : Rd w dc cv C) (he : Else dc C u) : Rd w' dc cv C ∧ Else dc C v' := by
 by_cases h0 : 0 < C.length
 ·have hlt := hrc.lt h0
  refine ⟨hrc.heap (hap.2.1.block dc hlt (fun e => he dc e.symm h0 rfl)), fun k hk _ e => ?_⟩
  rcases hap.2.2 with h | h
  ·rw [h] at hk; exact he k hk h0 e
  ·rw [h] at hk; injection hk with hk; omega
 ·have : C = [] := List.eq_nil_of_length_eq_zero (by omega)
  subst this
  obtain ⟨A, c, rfl, h1, h2, _⟩ := hrc
  exact ⟨⟨A, c, rfl, h1, h2, fun h => absurd h (by simp)⟩, fun _ _ h => absurd h (by simp)⟩
def EncPI (f : Fo) (w : World) (r : Ending) (w' : World) : Prop := ∃ v, r = .returned v ∧ Own w' w.heap.size v f.all ∧ Below w.heap.size w w'
def EncAt (k : Fo) : Prop := ∀ (w : World) (v : Value) (eb : Nat), FV DataI w (Lo w) v k → k.sz ≤ 1099511627776 → SelfE w eb → Calls Tryz.prog 58 #[v, .pointer (some ⟨eb, 0, none⟩)] w (EncPI k w)
theorem put_at (x : Nat) (xI : Int) (P : List UInt8) (w : World) (h : x < 18446744073709551616) (e : xI = (x : Int)) (hP : P = encV 9 x) :
  Calls Tryz.prog 33 #[.int .u64 xI] w fun r w' => ∃ v d, r = .returned v ∧ Rd w' d v P ∧ Below w.heap.size w w' := by
 subst e hP
 exact (put_any x h w).mono fun r w' ⟨v, d, h1, h2, _, h4⟩ => ⟨v, d, h1, h2, h4⟩
theorem enc_any (f : Fo) : EncAt f := by
 refine Fo.byKids (P := EncAt) ?_ f
 clear f
 intro f hkids w v eb hv hsz hself
 obtain ⟨A, c, rfl⟩ := hv.shape
 have hws := f.wt_le_sz
 have hlw := f.len_le_wt
 have hal := f.all_le
 have hlen40 : f.len ≤ 1099511627776 := by omega
 have hall : f.all.length ≤ 22000000000000 := by omega
 have HK : Hid (Fo.kidsAll EncAt f) := hHd hkids
 clear hkids hws hlw hal
 go_enter Tryz.func58, Tryz.ntmps58
 go_wp2
 go_loopw [4, 10] (fun u i wr => ∃ (j : Nat) (T : List UInt8), j ≤ f.len ∧ i = .int .i64 (j : Int) ∧ T.length ≤ 22000000000000 ∧ Hid (T = (Fo.take j f).all) ∧ Own wr w.heap.size u T ∧ Below w.heap.size w wr) (fun _ i _ => f.len - (intOf i).toNat)
 case atStart => exact ⟨0, [], Nat.zero_le _, rfl, by simp, hHd rfl, Own.nil _ _, Below.refl _ _⟩
 case round =>
  obtain ⟨j, T, hj, rfl, hT13, HT, hown, hB⟩ := hrel
  by_cases hlt : j < f.len
  ·obtain ⟨b, o, c', t, d, k, hve, hcap, hS, hdr, htk, ht64, hk0, ⟨dv, hk1, db, hdv, hdS⟩, ⟨kv, hk2, hkv⟩⟩ := hv.at hlt
   injection hve with e1 e2 e3
   subst e1 e3
   have hSb : b < w.heap.size := hS
   obtain ⟨A1, c1, rfl⟩ : ∃ D cd, dv = .slice D d.length cd := by obtain ⟨D, cd, e, _⟩ := hdv; exact ⟨D, cd, e⟩
   have hdl := hdv.len
   obtain ⟨A2, c2, rfl⟩ := hkv.shape
   have z1 := hB.size
   have hC0 : wr.cell? ⟨b, o + j * 3, none⟩ = some (.int .u64 (t : Int)) := (hB.cell (p := ⟨b, o + j * 3, none⟩) hSb).trans hk0
   have hC1 : wr.cell? ⟨b, o + j * 3 + 1, none⟩ = some (.slice A1 d.length c1) := (hB.cell (p := ⟨b, o + j * 3 + 1, none⟩) hSb).trans hk1
   have hC2 : wr.cell? ⟨b, o + j * 3 + 2, none⟩ = some (.slice A2 k.len c2) := (hB.cell (p := ⟨b, o + j * 3 + 2, none⟩) hSb).trans hk2
   have hdrop : (Fo.drop j f).sz ≤ f.sz := by
    have h := Fo.sz_app (Fo.take j f) (Fo.drop j f)
    rw [Fo.take_app_drop] at h
    omega
   rw [hdr] at hdrop
   simp only [Fo.sz] at hdrop
   have hIH : EncAt k := by
    have h := Fo.kidsAll_drop j HK.out
    rw [hdr] at h
    exact h.1
   have hks40 : k.sz ≤ 1099511627776 := by omega
   have i1 : (0 : Int) ≤ (j : Int) := by omega
   have i2 : (j : Int) < (f.len : Int) := by omega
   obtain ⟨P, hP⟩ : ∃ P, P = encV 9 t := ⟨_, rfl⟩
   obtain ⟨I, hI⟩ : ∃ I, I = Fo.inn t d k.all := ⟨_, rfl⟩
   obtain ⟨L, hL⟩ : ∃ L, L = encV 9 I.length := ⟨_, rfl⟩
   obtain ⟨T1, hT1⟩ : ∃ T1, T1 = T ++ P := ⟨_, rfl⟩
   obtain ⟨T2, hT2⟩ : ∃ T2, T2 = T1 ++ L := ⟨_, rfl⟩
   obtain ⟨T3, hT3⟩ : ∃ T3, T3 = T2 ++ I := ⟨_, rfl⟩
   have hTn : T3 = (Fo.take (j + 1) f).all := by rw [Fo.all_take j htk, hT3, hT2, hT1, hL, hP, hI, HT.out]; simp only [List.append_assoc]
   have hTl : T3.length ≤ f.all.length := by rw [hTn]; exact Fo.all_take_le _ _
   have l1 : T1.length = T.length + P.length := by rw [hT1, List.length_append]
   have l2 : T2.length = T1.length + L.length := by rw [hT2, List.length_append]
   have l3 : T3.length = T2.length + I.length := by rw [hT3, List.length_append]
   have b1 : T.length + P.length ≤ 140737488355328 := by omega
   have b2 : T1.length + L.length ≤ 140737488355328 := by omega
   have b3 : T2.length + I.length ≤ 140737488355328 := by omega
   have b4 : T3.length ≤ 22000000000000 := by omega
   have b5 : I.length ≤ 22000000000000 := by omega
   have b6 : I.length < 18446744073709551616 := by omega
   have HT64 := hHd ht64
   have HI64 := hHd b6
   have HP := hHd hP
   have HI := hHd hI
   have HL := hHd hL
   have HT1 := hHd hT1
   have HT2 := hHd hT2
   have HT3 := hHd hT3
   have HTN := hHd hTn
   have HB1 := hHd b1
   have HB2 := hHd b2
   have HB3 := hHd b3
   have HKV := hHd hkv
   have HIH := hHd hIH
   have HRD := hHd hdv
   have HDS := hHd hdS
   have HIA : Hid (Blk (wr.alloc (.cells #[.int .u64 (t : Int), .slice A1 d.length c1, .slice A2 k.len c2] 48)) wr.heap.size 48 #[.int .u64 (t : Int), .slice A1 d.length c1, .slice A2 k.len c2]) := hHd (Blk.new wr _ _)
   have hBA := hB.alloc hB.size (.cells #[.int .u64 (t : Int), .slice A1 d.length c1, .slice A2 k.len c2] 48)
   have hownA := hown.below ((Below.refl wr.heap.size wr).alloc (Nat.le_refl _) (.cells #[.int .u64 (t : Int), .slice A1 d.length c1, .slice A2 k.len c2] 48))
   clear hIH hkv hdr htk hk0 hk1 hk2 e2 hS hdrop hsz hdv hdS ht64 HK hP hI hL hT1 hT2 hT3 hTn hTl l1 l2 l3 b1 b2 b3 b6 hown
   by_cases hodd : t % 2 = 1
   ·have HIk : Hid (I = k.all) := hHd (by have h := HI.out; rw [h]; unfold Fo.inn; rw [if_pos hodd])
    have HC := hHd (fun w => nests_yes t (.slice A1 d.length c1) (.slice A2 k.len c2) w hodd)
    clear hodd HI
    go_wp2_with fail
    refine (HC.out _).mono ?_
    rintro r w1 ⟨rfl, hb1⟩
    have hB1 := hBA.trans (hb1.mono hBA.size)
    have z3 := hB1.size
    have hown1 := hownA.below hb1
    have HI1 : Hid (Blk w1 wr.heap.size 48 #[.int .u64 (t : Int), .slice A1 d.length c1, .slice A2 k.len c2]) := hHd (HIA.out.below hb1 HIA.out.lt)
    have hself1 : SelfE w1 eb := Blk.below hself hB1 (Blk.lt hself)
    have hkv1 : FV DataI w1 (Lo w1) (.slice A2 k.len c2) k := HKV.out.kept stays_I (fun g hg => hB1.block g hg) (fun _ hg => Nat.lt_of_lt_of_le hg hB1.size)
    have HII := hHd (HIH.out w1 (.slice A2 k.len c2) eb hkv1 hks40 hself1)
    have s1 : w1.cell? ⟨eb, 0, none⟩ = some (.func (.func 58) #[] #[.pointer (some ⟨eb, 0, none⟩)]) := by rw [hself1.cell]; rfl
    have v2 : w1.cell? ⟨wr.heap.size, 2, none⟩ = some (.slice A2 k.len c2) := by rw [HI1.out.cell]; rfl
    clear hb1 hself1 hkv1 hC0 hC1 hC2 HIA hBA hownA hB
    go_wp2_with fail
    refine HII.out.mono ?_
    rintro r w2 ⟨cv, rfl, hcv, hb2⟩
    rw [← HIk.out] at hcv
    obtain ⟨dc, hdc1, hdc2, hrcX⟩ := hcv.rd (by omega)
    have heX : Else dc I u4 := fun q hq h0 e => by
     have h1 := (World.ownsRow.lt hown1 q hq).2
     omega
    have v0 : w2.cell? ⟨wr.heap.size, 0, none⟩ = some (.int .u64 (t : Int)) := (hb2.cell (p := ⟨wr.heap.size, 0, none⟩) HI1.out.lt).trans (by rw [HI1.out.cell]; rfl)
    have hownX := hown1.below hb2
    have hbX := hB1.trans (hb2.mono hB1.size)
    obtain ⟨A3, c3, rfl⟩ : ∃ A c, cv = .slice A I.length c := by obtain ⟨A, c, h, _⟩ := id hrcX; exact ⟨A, c, h⟩
    clear hb2 s1 v2 HI1 hown1 hB1 z3 hcv hdc1 hdc2
    go_wp2_with fail
    refine (put_at t _ P _ HT64.out rfl HP.out).mono ?_
    rintro r w3 ⟨v3, d3, rfl, hr3, hb3⟩
    have hown3 := hownX.below hb3
    have hbw3 := hbX.trans (hb3.mono hbX.size)
    have hrc3 := hrcX.below' hb3
    clear hb3 v0 hownX hbX hrcX
    go_wp2_with (at_builtin; refine wpList_append_rd rfl (.tmp 22) (.tmp 25) rfl rfl w.heap.size _ T rfl hown3 _ _ P rfl hr3 ?h1 ?h2 ?_)
    case h1 => exact HB1.out
    case h2 => exact hbw3.size
    intro v4 w4 hap
    obtain ⟨hrc4, heY⟩ := app_else hap hrc3 heX
    have hbw4 := hbw3.trans (hap.below hown3 hbw3.size)
    have hown4 : Own w4 w.heap.size v4 T1 := by rw [HT1.out]; exact hap.1
    clear hap hown3 hbw3 hrc3 hr3 heX
    go_wp2_with fail
    refine (put_at I.length _ L _ HI64.out rfl HL.out).mono ?_
    rintro r w5 ⟨v5, d5, rfl, hr5, hb5⟩
    have hown5 := hown4.below hb5
    have hbw5 := hbw4.trans (hb5.mono hbw4.size)
    have hrc5 := hrc4.below' hb5
    clear hb5 hown4 hbw4 hrc4
    go_wp2_with (at_builtin; refine wpList_append_rd rfl (.tmp 27) (.tmp 31) rfl rfl w.heap.size _ T1 rfl hown5 _ _ L rfl hr5 ?h1 ?h2 ?_)
    case h1 => exact HB2.out
    case h2 => exact hbw5.size
    intro v6 w6 hap
    obtain ⟨hrc6, -⟩ := app_else hap hrc5 heY
    have hbw6 := hbw5.trans (hap.below hown5 hbw5.size)
    have hown6 : Own w6 w.heap.size v6 T2 := by rw [HT2.out]; exact hap.1
    clear hap hown5 hbw5 hrc5 hr5 heY
    go_wp2_with (at_builtin; refine wpList_append_rd rfl (.tmp 33) (.tmp 34) rfl rfl w.heap.size _ T2 rfl hown6 _ _ I rfl hrc6 ?h1 ?h2 ?_)
    case h1 => exact HB3.out
    case h2 => exact hbw6.size
    intro v7 w7 hap
    have hbw7 := hbw6.trans (hap.below hown6 hbw6.size)
    have hown7 : Own w7 w.heap.size v7 T3 := by rw [HT3.out]; exact hap.1
    clear hap hown6 hbw6 hrc6
    go_wp2
    go_roundw
    case rel => exact ⟨j + 1, T3, by omega, by go_num, b4, HTN, hown7, hbw7⟩
    case measure => simp [intOf]; omega
   ·have HIk : Hid (I = d) := hHd (by have h := HI.out; rw [h]; unfold Fo.inn; rw [if_neg hodd])
    obtain rfl : I = d := HIk.out
    have HC := hHd (fun w => nests_no t (.slice A1 I.length c1) (.slice A2 k.len c2) w hodd)
    clear hodd HI HIk
    go_wp2_with fail
    refine (HC.out _).mono ?_
    rintro r w1 ⟨rfl, hb1⟩
    have hbX := hBA.trans (hb1.mono hBA.size)
    have hownX := hownA.below hb1
    have hrcX : Rd w1 db (.slice A1 I.length c1) I := HRD.out.keepS HDS.out hbX
    have heX : Else db I u4 := fun q hq h0 e => by
     have h1 := (World.ownsRow.lt hownX q hq).1
     have h2 : db < w.heap.size := HDS.out h0
     omega
    have v0 : w1.cell? ⟨wr.heap.size, 0, none⟩ = some (.int .u64 (t : Int)) := by rw [(HIA.out.below hb1 HIA.out.lt).cell]; rfl
    clear hb1 hC0 hC1 hC2 HIA hBA hownA hB
    go_wp2_with fail
    refine (put_at t _ P _ HT64.out rfl HP.out).mono ?_
    rintro r w3 ⟨v3, d3, rfl, hr3, hb3⟩
    have hown3 := hownX.below hb3
    have hbw3 := hbX.trans (hb3.mono hbX.size)
    have hrc3 := hrcX.below' hb3
    clear hb3 v0 hownX hbX hrcX
    go_wp2_with (at_builtin; refine wpList_append_rd rfl (.tmp 22) (.tmp 25) rfl rfl w.heap.size _ T rfl hown3 _ _ P rfl hr3 ?h1 ?h2 ?_)
    case h1 => exact HB1.out
    case h2 => exact hbw3.size
    intro v4 w4 hap
    obtain ⟨hrc4, heY⟩ := app_else hap hrc3 heX
    have hbw4 := hbw3.trans (hap.below hown3 hbw3.size)
    have hown4 : Own w4 w.heap.size v4 T1 := by rw [HT1.out]; exact hap.1
    clear hap hown3 hbw3 hrc3 hr3 heX
    go_wp2_with fail
    refine (put_at I.length _ L _ HI64.out rfl HL.out).mono ?_
    rintro r w5 ⟨v5, d5, rfl, hr5, hb5⟩
    have hown5 := hown4.below hb5
    have hbw5 := hbw4.trans (hb5.mono hbw4.size)
    have hrc5 := hrc4.below' hb5
    clear hb5 hown4 hbw4 hrc4
    go_wp2_with (at_builtin; refine wpList_append_rd rfl (.tmp 27) (.tmp 31) rfl rfl w.heap.size _ T1 rfl hown5 _ _ L rfl hr5 ?h1 ?h2 ?_)
    case h1 => exact HB2.out
    case h2 => exact hbw5.size
    intro v6 w6 hap
    obtain ⟨hrc6, -⟩ := app_else hap hrc5 heY
    have hbw6 := hbw5.trans (hap.below hown5 hbw5.size)
    have hown6 : Own w6 w.heap.size v6 T2 := by rw [HT2.out]; exact hap.1
    clear hap hown5 hbw5 hrc5 hr5 heY
    go_wp2_with (at_builtin; refine wpList_append_rd rfl (.tmp 33) (.tmp 34) rfl rfl w.heap.size _ T2 rfl hown6 _ _ I rfl hrc6 ?h1 ?h2 ?_)
    case h1 => exact HB3.out
    case h2 => exact hbw6.size
    intro v7 w7 hap
    have hbw7 := hbw6.trans (hap.below hown6 hbw6.size)
    have hown7 : Own w7 w.heap.size v7 T3 := by rw [HT3.out]; exact hap.1
    clear hap hown6 hbw6 hrc6
    go_wp2
    go_roundw
    case rel => exact ⟨j + 1, T3, by omega, by go_num, b4, HTN, hown7, hbw7⟩
    case measure => simp [intOf]; omega
  ·obtain rfl : j = f.len := by omega
   have hTe : T = f.all := by rw [HT.out, Fo.take_all]
   subst hTe
   obtain ⟨d9, -, -, hr9⟩ := hown.rd (by omega)
   obtain ⟨A9, c9, rfl⟩ : ∃ A c, u4 = .slice A f.all.length c := by obtain ⟨A, c, h, _⟩ := hr9; exact ⟨A, c, h⟩
   have HO := hHd hown
   clear hlt hown
   go_wp2
   go_ret
   exact ⟨_, rfl, HO.out, hB⟩
end Go.Proofs.YtodlhgflfcadmaaGreat
