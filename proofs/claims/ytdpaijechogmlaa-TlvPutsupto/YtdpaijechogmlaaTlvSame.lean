/-
  What the document's Same answers for two rows of items (package tollbarref03). No condition but those of each theorem.
-/
import Derived.Test.YtdpaijechogmlaaTlvMany
import Derived.Test.YtdpaijechogmlaaOctRef
namespace Go.Proofs.Ytdpaijechogmlaa
open Go.RowKit
set_option linter.unusedSimpArgs false
attribute [local go_sem ↓] Go.wp_at_zero Go.wp_at_succ

def SamePost (a b : Fo) (w : World) (r : Ending) (w' : World) : Prop := r = .returned (.bool (decide (a = b))) ∧ Below w.heap.size w w'

theorem Fo.same_step {a b : Fo} {j t t' : Nat} {d d' : List UInt8} {k k' : Fo} (h1 : Fo.take (j + 1) a = (Fo.take j a).app (.cons t d k .nil)) (h2 : Fo.take (j + 1) b = (Fo.take j b).app (.cons t' d' k' .nil)) (h : Fo.take j a = Fo.take j b) (ht : t = t') (hd : d = d') (hk : k = k') : Fo.take (j + 1) a = Fo.take (j + 1) b := by
  subst ht hd hk
  rw [h1, h2, h]
theorem Fo.same_not {a b : Fo} {j t t' : Nat} {d d' : List UInt8} {k k' : Fo} (h1 : Fo.drop j a = .cons t d k (Fo.drop (j + 1) a)) (h2 : Fo.drop j b = .cons t' d' k' (Fo.drop (j + 1) b)) (h : ¬ (t = t' ∧ d = d' ∧ k = k')) : decide (a = b) = false := by
  refine decide_eq_false (fun e => h ?_)
  subst e
  rw [h1] at h2
  injection h2 with e1 e2 e3
  exact ⟨e1, e2, e3⟩

set_option maxRecDepth 100000 in
set_option maxHeartbeats 4000000 in
theorem same_any (a : Fo) : ∀ (b : Fo) (w : World) (va vb : Value), FV DataR w (Lo w) va a → FV DataR w (Lo w) vb b → a.sz ≤ 1099511627776 → Calls Try.prog 19 #[va, vb] w (SamePost a b w) := by
  refine Fo.byKids (P := fun a => ∀ (b : Fo) (w : World) (va vb : Value), FV DataR w (Lo w) va a → FV DataR w (Lo w) vb b → a.sz ≤ 1099511627776 → Calls Try.prog 19 #[va, vb] w (SamePost a b w)) ?_ a
  clear a
  intro a hkids b w va vb hva hvb hsz
  obtain ⟨A, c, rfl⟩ := hva.shape
  obtain ⟨A', c', rfl⟩ := hvb.shape
  have hws := a.wt_le_sz
  have hlw := a.len_le_wt
  have hlen40 : a.len ≤ 1099511627776 := by omega
  have HK : Hid (Fo.kidsAll (fun a => ∀ (b : Fo) (w : World) (va vb : Value), FV DataR w (Lo w) va a → FV DataR w (Lo w) vb b → a.sz ≤ 1099511627776 → Calls Try.prog 19 #[va, vb] w (SamePost a b w)) a) := Lib.hid hkids
  clear hkids hws hlw
  by_cases hll : a.len = b.len
  · have hlb : ((a.len : Int) == (b.len : Int)) = true := by rw [hll]; simp
    have hlb2 : ((a.len : Int) != (b.len : Int)) = false := by rw [hll]; simp
    have hle : a.len ≤ b.len := by omega
    have hge : b.len ≤ a.len := by omega
    clear hll
    go_enter Try.func19, Try.ntmps19
    go_wp2
    go_loopw [5] (fun i wr => ∃ (j : Nat), j ≤ a.len ∧ i = .int .i64 (j : Int) ∧ Hid (Fo.take j a = Fo.take j b) ∧ Below w.heap.size w wr) (fun i _ => a.len - (intOf i).toNat)
    case atStart => exact ⟨0, Nat.zero_le _, rfl, Lib.hid rfl, Below.refl _ _⟩
    case round =>
      obtain ⟨j, hj, rfl, HT, hB⟩ := hrel
      by_cases hlt : j < a.len
      · obtain ⟨g, o, c1', t, d, k, hve, hcap, hS, hdr, htk, ht64, hc0, ⟨dv, hc1, hdv⟩, ⟨kv, hc2, hkv⟩⟩ := hva.at hlt
        obtain ⟨g', o', c2', t', d', k', hve', hcap', hS', hdr', htk', ht64', hc0', ⟨dv', hc1', hdv'⟩, ⟨kv', hc2', hkv'⟩⟩ := hvb.at (show j < b.len by omega)
        injection hve with e1 e2 e3
        injection hve' with e4 e5 e6
        subst e1 e3 e4 e6
        have hSb : g < w.heap.size := hS
        have hSb' : g' < w.heap.size := hS'
        have hdv1 : dv = .string (txt d) := hdv
        have hdv2 : dv' = .string (txt d') := hdv'
        subst hdv1 hdv2
        have hdrop : (Fo.drop j a).sz ≤ a.sz := by
          have h := Fo.sz_app (Fo.take j a) (Fo.drop j a)
          rw [Fo.take_app_drop] at h
          omega
        rw [hdr] at hdrop
        simp only [Fo.sz] at hdrop
        have hIH := Fo.kidsAll_drop j HK.out
        rw [hdr] at hIH
        have hBd := hB.drew
        have hks40 : k.sz ≤ 1099511627776 := by omega
        have hkv2 : FV DataR wr.drew (Lo wr.drew) kv k := hkv.kept stays_R (fun g hg => hBd.block g hg) (fun _ hg => Nat.lt_of_lt_of_le hg hBd.size)
        have hkv3 : FV DataR wr.drew (Lo wr.drew) kv' k' := hkv'.kept stays_R (fun g hg => hBd.block g hg) (fun _ hg => Nat.lt_of_lt_of_le hg hBd.size)
        have HI := Lib.hid (hIH.1 k' wr.drew kv kv' hkv2 hkv3 hks40)
        have HNOT : Hid (¬ (t = t' ∧ d = d' ∧ k = k') → decide (a = b) = false) := Lib.hid (Fo.same_not hdr hdr')
        have HSTEP : Hid (t = t' → d = d' → k = k' → Fo.take (j + 1) a = Fo.take (j + 1) b) := Lib.hid (Fo.same_step htk htk' HT.out)
        have i1 : (0 : Int) ≤ (j : Int) := by omega
        have i2 : (j : Int) < (a.len : Int) := by omega
        have i3 : (j : Int) < (b.len : Int) := by omega
        have q0 : wr.drew.cell? ⟨g, o + j * 3, none⟩ = some (.int .u64 (t : Int)) := (hBd.cell (p := ⟨g, o + j * 3, none⟩) hSb).trans hc0
        have q1 : wr.drew.cell? ⟨g, o + j * 3 + 1, none⟩ = some (.string (txt d)) := (hBd.cell (p := ⟨g, o + j * 3 + 1, none⟩) hSb).trans hc1
        have q2 : wr.drew.cell? ⟨g, o + j * 3 + 2, none⟩ = some kv := (hBd.cell (p := ⟨g, o + j * 3 + 2, none⟩) hSb).trans hc2
        have q3 : wr.drew.cell? ⟨g', o' + j * 3, none⟩ = some (.int .u64 (t' : Int)) := (hBd.cell (p := ⟨g', o' + j * 3, none⟩) hSb').trans hc0'
        have q4 : wr.drew.cell? ⟨g', o' + j * 3 + 1, none⟩ = some (.string (txt d')) := (hBd.cell (p := ⟨g', o' + j * 3 + 1, none⟩) hSb').trans hc1'
        have q5 : wr.drew.cell? ⟨g', o' + j * 3 + 2, none⟩ = some kv' := (hBd.cell (p := ⟨g', o' + j * 3 + 2, none⟩) hSb').trans hc2'
        clear hIH hkv hkv' hkv2 hkv3 hdr hdr' htk htk' hc0 hc1 hc2 hc0' hc1' hc2' e2 e5 hS hS' hdrop hsz hdv hdv' ht64 ht64'
        go_wp2_with fail
        refine wp_region_noPanic ?_
        refine wp_region_held_drew (S := fun _ => True) (by kernel_rfl) trivial (fun hS => ?_)
        refine wpAnyH_take (i := 0) (oi := ?o1_0_1) (v := ?v1_0_1) ?i1_0_1 (by kernel_rfl) (by kernel_rfl) (by kernel_rfl) (fun _ _ _ h => h) (Or.inl ⟨?g1_0_1, ?y1_0_1⟩) hS ?_
        case i1_0_1 => simp only [List.getElem?_toArray, List.getElem?_cons_succ, List.getElem?_cons_zero]; rfl
        case g1_0_1 => rfl
        case y1_0_1 => (intro w hSw; (go_simp <;> with_reducible rfl))
        (try simp only [Act.put, List.setIfInBounds_toArray, List.set_cons_zero, List.set_cons_succ])
        refine wpAnyH_take (i := 1) (oi := ?o1_1_2) (v := ?v1_1_2) ?i1_1_2 (by kernel_rfl) (by kernel_rfl) (by kernel_rfl) (fun _ _ _ h => h) (Or.inl ⟨?g1_1_2, ?y1_1_2⟩) hS ?_
        case i1_1_2 => simp only [List.getElem?_toArray, List.getElem?_cons_succ, List.getElem?_cons_zero]; rfl
        case g1_1_2 => rfl
        case y1_1_2 => (intro w hSw; (go_simp <;> with_reducible rfl))
        (try simp only [Act.put, List.setIfInBounds_toArray, List.set_cons_zero, List.set_cons_succ])
        refine wpAnyH_take (i := 2) (oi := ?o1_2_3) (v := ?v1_2_3) ?i1_2_3 (by kernel_rfl) (by kernel_rfl) (by kernel_rfl) (fun _ _ _ h => h) (Or.inl ⟨?g1_2_3, ?y1_2_3⟩) hS ?_
        case i1_2_3 => simp only [List.getElem?_toArray, List.getElem?_cons_succ, List.getElem?_cons_zero]; rfl
        case g1_2_3 => rfl
        case y1_2_3 => (intro w hSw; (go_simp <;> with_reducible rfl))
        (try simp only [Act.put, List.setIfInBounds_toArray, List.set_cons_zero, List.set_cons_succ])
        refine wpAnyH_take (i := 3) (oi := ?o1_3_4) (v := ?v1_3_4) ?i1_3_4 (by kernel_rfl) (by kernel_rfl) (by kernel_rfl) (fun _ _ _ h => h) (Or.inl ⟨?g1_3_4, ?y1_3_4⟩) hS ?_
        case i1_3_4 => simp only [List.getElem?_toArray, List.getElem?_cons_succ, List.getElem?_cons_zero]; rfl
        case g1_3_4 => rfl
        case y1_3_4 => (intro w hSw; (go_simp <;> with_reducible rfl))
        (try simp only [Act.put, List.setIfInBounds_toArray, List.set_cons_zero, List.set_cons_succ])
        refine held_more (S' := fun w' => w'.cell? ⟨g, o + j * 3 + 2, none⟩ = some kv ∧ w'.cell? ⟨g', o' + j * 3 + 2, none⟩ = some kv') (fun _ _ => trivial) _ _ _ _ ?_
        replace hS := And.intro q2 q5
        refine wpAnyH_take (i := 4) (oi := ?o1_4_5) (v := ?v1_4_5) ?i1_4_5 (by kernel_rfl) (by kernel_rfl) (by kernel_rfl) (fun _ _ _ h => h) (Or.inl ⟨?g1_4_5, ?y1_4_5⟩) hS ?_
        case i1_4_5 => simp only [List.getElem?_toArray, List.getElem?_cons_succ, List.getElem?_cons_zero]; rfl
        case g1_4_5 => rfl
        case y1_4_5 => (intro w hSw; have hc := hSw.1; (go_simp <;> with_reducible rfl))
        (try simp only [Act.put, List.setIfInBounds_toArray, List.set_cons_zero, List.set_cons_succ])
        refine wpAnyH_take (i := 5) (oi := ?o1_5_6) (v := ?v1_5_6) ?i1_5_6 (by kernel_rfl) (by kernel_rfl) (by kernel_rfl) (fun _ _ _ h => h) (Or.inl ⟨?g1_5_6, ?y1_5_6⟩) hS ?_
        case i1_5_6 => simp only [List.getElem?_toArray, List.getElem?_cons_succ, List.getElem?_cons_zero]; rfl
        case g1_5_6 => rfl
        case y1_5_6 => (intro w hSw; (go_simp <;> with_reducible rfl))
        (try simp only [Act.put, List.setIfInBounds_toArray, List.set_cons_zero, List.set_cons_succ])
        refine wpAnyH_take (i := 6) (oi := ?o1_6_7) (v := ?v1_6_7) ?i1_6_7 (by kernel_rfl) (by kernel_rfl) (by kernel_rfl) (fun _ _ _ h => h) (Or.inl ⟨?g1_6_7, ?y1_6_7⟩) hS ?_
        case i1_6_7 => simp only [List.getElem?_toArray, List.getElem?_cons_succ, List.getElem?_cons_zero]; rfl
        case g1_6_7 => rfl
        case y1_6_7 => (intro w hSw; (go_simp <;> with_reducible rfl))
        (try simp only [Act.put, List.setIfInBounds_toArray, List.set_cons_zero, List.set_cons_succ])
        refine wpAnyH_take (i := 7) (oi := ?o1_7_8) (v := ?v1_7_8) ?i1_7_8 (by kernel_rfl) (by kernel_rfl) (by kernel_rfl) (fun _ _ _ h => h) (Or.inl ⟨?g1_7_8, ?y1_7_8⟩) hS ?_
        case i1_7_8 => simp only [List.getElem?_toArray, List.getElem?_cons_succ, List.getElem?_cons_zero]; rfl
        case g1_7_8 => rfl
        case y1_7_8 => (intro w hSw; (go_simp <;> with_reducible rfl))
        (try simp only [Act.put, List.setIfInBounds_toArray, List.set_cons_zero, List.set_cons_succ])
        refine wpAnyH_take (i := 8) (oi := ?o1_8_9) (v := ?v1_8_9) ?i1_8_9 (by kernel_rfl) (by kernel_rfl) (by kernel_rfl) (fun _ _ _ h => h) (Or.inl ⟨?g1_8_9, ?y1_8_9⟩) hS ?_
        case i1_8_9 => simp only [List.getElem?_toArray, List.getElem?_cons_succ, List.getElem?_cons_zero]; rfl
        case g1_8_9 => rfl
        case y1_8_9 => (intro w hSw; (go_simp <;> with_reducible rfl))
        (try simp only [Act.put, List.setIfInBounds_toArray, List.set_cons_zero, List.set_cons_succ])
        refine wpAnyH_take (i := 9) (oi := ?o1_9_10) (v := ?v1_9_10) ?i1_9_10 (by kernel_rfl) (by kernel_rfl) (by kernel_rfl) (fun _ _ _ h => h) (Or.inl ⟨?g1_9_10, ?y1_9_10⟩) hS ?_
        case i1_9_10 => simp only [List.getElem?_toArray, List.getElem?_cons_succ, List.getElem?_cons_zero]; rfl
        case g1_9_10 => rfl
        case y1_9_10 => (intro w hSw; have hc := hSw.2; (go_simp <;> with_reducible rfl))
        (try simp only [Act.put, List.setIfInBounds_toArray, List.set_cons_zero, List.set_cons_succ])
        refine wpAnyH_ready (rs := [10]) (by kernel_rfl) (by simp) ?_
        refine (AllReadyH.cons (o := ?o1_11_10) ?i1_11_10 (fun K hK => ?st1_11_10) AllReadyH.nil)
        case i1_11_10 => simp only [List.getElem?_toArray, List.getElem?_cons_succ, List.getElem?_cons_zero]; rfl
        rw [if_pos (by rfl)]
        go_simp
        refine HI.out.mono ?_
        rintro r w6 ⟨rfl, hb6⟩
        go_wp2_with fail
        refine hK.out _ _ ?s1_11_10 (fun hS => ?_)
        case s1_11_10 => (exact ⟨(hb6.cell (p := ⟨g, o + j * 3 + 2, none⟩) (Nat.lt_of_lt_of_le hSb hBd.size)).trans hS.1, (hb6.cell (p := ⟨g', o' + j * 3 + 2, none⟩) (Nat.lt_of_lt_of_le hSb' hBd.size)).trans hS.2⟩)
        clear hK K
        (try simp only [Act.put, List.setIfInBounds_toArray, List.set_cons_zero, List.set_cons_succ])
        refine wpAnyH_take (i := 11) (oi := ?o1_11_12) (v := ?v1_11_12) ?i1_11_12 (by kernel_rfl) (by kernel_rfl) (by kernel_rfl) (fun _ _ _ h => h) (Or.inl ⟨?g1_11_12, ?y1_11_12⟩) hS ?_
        case i1_11_12 => simp only [List.getElem?_toArray, List.getElem?_cons_succ, List.getElem?_cons_zero]; rfl
        case g1_11_12 => rfl
        case y1_11_12 => (intro w hSw; (go_simp <;> with_reducible rfl))
        (try simp only [Act.put, List.setIfInBounds_toArray, List.set_cons_zero, List.set_cons_succ])
        refine wpAnyH_done (by kernel_rfl) ?_ _
        refine NoPanic.normal ?_
        have z1 := hBd.size
        have hBe := (hBd.trans (hb6.mono hBd.size)).drew
        have r0 : w6.drew.cell? ⟨g, o + j * 3, none⟩ = some (.int .u64 (t : Int)) := (hb6.drew.cell (p := ⟨g, o + j * 3, none⟩) (Nat.lt_of_lt_of_le hSb hBd.size)).trans q0
        have r1 : w6.drew.cell? ⟨g, o + j * 3 + 1, none⟩ = some (.string (txt d)) := (hb6.drew.cell (p := ⟨g, o + j * 3 + 1, none⟩) (Nat.lt_of_lt_of_le hSb hBd.size)).trans q1
        have r3 : w6.drew.cell? ⟨g', o' + j * 3, none⟩ = some (.int .u64 (t' : Int)) := (hb6.drew.cell (p := ⟨g', o' + j * 3, none⟩) (Nat.lt_of_lt_of_le hSb' hBd.size)).trans q3
        have r4 : w6.drew.cell? ⟨g', o' + j * 3 + 1, none⟩ = some (.string (txt d')) := (hb6.drew.cell (p := ⟨g', o' + j * 3 + 1, none⟩) (Nat.lt_of_lt_of_le hSb' hBd.size)).trans q4
        clear hS q0 q1 q2 q3 q4 q5 hb6 hBd hB
        by_cases htt : t = t'
        · by_cases hdd : d = d'
          · by_cases hkk : k = k'
            · have hkb : decide (k = k') = true := decide_eq_true hkk
              have HZ := Lib.hid (HSTEP.out htt hdd hkk)
              subst htt hdd
              clear hkk
              go_wp2_with fail
              refine wp_region_noPanic ?_
              refine wp_region_held_drew (S := fun _ => True) (by kernel_rfl) trivial (fun hS => ?_)
              refine wpAnyH_take (i := 0) (oi := ?o2_0_1) (v := ?v2_0_1) ?i2_0_1 (by kernel_rfl) (by kernel_rfl) (by kernel_rfl) (fun _ _ _ h => h) (Or.inl ⟨?g2_0_1, ?y2_0_1⟩) hS ?_
              case i2_0_1 => simp only [List.getElem?_toArray, List.getElem?_cons_succ, List.getElem?_cons_zero]; rfl
              case g2_0_1 => rfl
              case y2_0_1 => (intro w hSw; (go_simp <;> with_reducible rfl))
              (try simp only [Act.put, List.setIfInBounds_toArray, List.set_cons_zero, List.set_cons_succ])
              refine wpAnyH_take (i := 1) (oi := ?o2_1_2) (v := ?v2_1_2) ?i2_1_2 (by kernel_rfl) (by kernel_rfl) (by kernel_rfl) (fun _ _ _ h => h) (Or.inl ⟨?g2_1_2, ?y2_1_2⟩) hS ?_
              case i2_1_2 => simp only [List.getElem?_toArray, List.getElem?_cons_succ, List.getElem?_cons_zero]; rfl
              case g2_1_2 => rfl
              case y2_1_2 => (intro w hSw; (go_simp <;> with_reducible rfl))
              (try simp only [Act.put, List.setIfInBounds_toArray, List.set_cons_zero, List.set_cons_succ])
              refine wpAnyH_take (i := 2) (oi := ?o2_2_3) (v := ?v2_2_3) ?i2_2_3 (by kernel_rfl) (by kernel_rfl) (by kernel_rfl) (fun _ _ _ h => h) (Or.inl ⟨?g2_2_3, ?y2_2_3⟩) hS ?_
              case i2_2_3 => simp only [List.getElem?_toArray, List.getElem?_cons_succ, List.getElem?_cons_zero]; rfl
              case g2_2_3 => rfl
              case y2_2_3 => (intro w hSw; (go_simp <;> with_reducible rfl))
              (try simp only [Act.put, List.setIfInBounds_toArray, List.set_cons_zero, List.set_cons_succ])
              refine wpAnyH_take (i := 3) (oi := ?o2_3_4) (v := ?v2_3_4) ?i2_3_4 (by kernel_rfl) (by kernel_rfl) (by kernel_rfl) (fun _ _ _ h => h) (Or.inl ⟨?g2_3_4, ?y2_3_4⟩) hS ?_
              case i2_3_4 => simp only [List.getElem?_toArray, List.getElem?_cons_succ, List.getElem?_cons_zero]; rfl
              case g2_3_4 => rfl
              case y2_3_4 => (intro w hSw; (go_simp <;> with_reducible rfl))
              (try simp only [Act.put, List.setIfInBounds_toArray, List.set_cons_zero, List.set_cons_succ])
              refine held_more (S' := fun w' => w'.cell? ⟨g, o + j * 3, none⟩ = some (.int .u64 (t : Int)) ∧ w'.cell? ⟨g', o' + j * 3, none⟩ = some (.int .u64 (t : Int)) ∧ w'.cell? ⟨g, o + j * 3 + 1, none⟩ = some (.string (txt d)) ∧ w'.cell? ⟨g', o' + j * 3 + 1, none⟩ = some (.string (txt d))) (fun _ _ => trivial) _ _ _ _ ?_
              replace hS := And.intro r0 (And.intro r3 (And.intro r1 r4))
              refine wpAnyH_take (i := 4) (oi := ?o2_4_5) (v := ?v2_4_5) ?i2_4_5 (by kernel_rfl) (by kernel_rfl) (by kernel_rfl) (fun _ _ _ h => h) (Or.inl ⟨?g2_4_5, ?y2_4_5⟩) hS ?_
              case i2_4_5 => simp only [List.getElem?_toArray, List.getElem?_cons_succ, List.getElem?_cons_zero]; rfl
              case g2_4_5 => rfl
              case y2_4_5 => (intro w hSw; have hc := hSw.1; (go_simp <;> with_reducible rfl))
              (try simp only [Act.put, List.setIfInBounds_toArray, List.set_cons_zero, List.set_cons_succ])
              refine wpAnyH_take (i := 5) (oi := ?o2_5_6) (v := ?v2_5_6) ?i2_5_6 (by kernel_rfl) (by kernel_rfl) (by kernel_rfl) (fun _ _ _ h => h) (Or.inl ⟨?g2_5_6, ?y2_5_6⟩) hS ?_
              case i2_5_6 => simp only [List.getElem?_toArray, List.getElem?_cons_succ, List.getElem?_cons_zero]; rfl
              case g2_5_6 => rfl
              case y2_5_6 => (intro w hSw; (go_simp <;> with_reducible rfl))
              (try simp only [Act.put, List.setIfInBounds_toArray, List.set_cons_zero, List.set_cons_succ])
              refine wpAnyH_take (i := 6) (oi := ?o2_6_7) (v := ?v2_6_7) ?i2_6_7 (by kernel_rfl) (by kernel_rfl) (by kernel_rfl) (fun _ _ _ h => h) (Or.inl ⟨?g2_6_7, ?y2_6_7⟩) hS ?_
              case i2_6_7 => simp only [List.getElem?_toArray, List.getElem?_cons_succ, List.getElem?_cons_zero]; rfl
              case g2_6_7 => rfl
              case y2_6_7 => (intro w hSw; (go_simp <;> with_reducible rfl))
              (try simp only [Act.put, List.setIfInBounds_toArray, List.set_cons_zero, List.set_cons_succ])
              refine wpAnyH_take (i := 7) (oi := ?o2_7_8) (v := ?v2_7_8) ?i2_7_8 (by kernel_rfl) (by kernel_rfl) (by kernel_rfl) (fun _ _ _ h => h) (Or.inl ⟨?g2_7_8, ?y2_7_8⟩) hS ?_
              case i2_7_8 => simp only [List.getElem?_toArray, List.getElem?_cons_succ, List.getElem?_cons_zero]; rfl
              case g2_7_8 => rfl
              case y2_7_8 => (intro w hSw; (go_simp <;> with_reducible rfl))
              (try simp only [Act.put, List.setIfInBounds_toArray, List.set_cons_zero, List.set_cons_succ])
              refine wpAnyH_take (i := 8) (oi := ?o2_8_9) (v := ?v2_8_9) ?i2_8_9 (by kernel_rfl) (by kernel_rfl) (by kernel_rfl) (fun _ _ _ h => h) (Or.inl ⟨?g2_8_9, ?y2_8_9⟩) hS ?_
              case i2_8_9 => simp only [List.getElem?_toArray, List.getElem?_cons_succ, List.getElem?_cons_zero]; rfl
              case g2_8_9 => rfl
              case y2_8_9 => (intro w hSw; (go_simp <;> with_reducible rfl))
              (try simp only [Act.put, List.setIfInBounds_toArray, List.set_cons_zero, List.set_cons_succ])
              refine wpAnyH_take (i := 9) (oi := ?o2_9_10) (v := ?v2_9_10) ?i2_9_10 (by kernel_rfl) (by kernel_rfl) (by kernel_rfl) (fun _ _ _ h => h) (Or.inl ⟨?g2_9_10, ?y2_9_10⟩) hS ?_
              case i2_9_10 => simp only [List.getElem?_toArray, List.getElem?_cons_succ, List.getElem?_cons_zero]; rfl
              case g2_9_10 => rfl
              case y2_9_10 => (intro w hSw; have hc := hSw.2.1; (go_simp <;> with_reducible rfl))
              (try simp only [Act.put, List.setIfInBounds_toArray, List.set_cons_zero, List.set_cons_succ])
              refine wpAnyH_take (i := 10) (oi := ?o2_10_11) (v := ?v2_10_11) ?i2_10_11 (by kernel_rfl) (by kernel_rfl) (by kernel_rfl) (fun _ _ _ h => h) (Or.inl ⟨?g2_10_11, ?y2_10_11⟩) hS ?_
              case i2_10_11 => simp only [List.getElem?_toArray, List.getElem?_cons_succ, List.getElem?_cons_zero]; rfl
              case g2_10_11 => rfl
              case y2_10_11 => (intro w hSw; (go_simp <;> with_reducible rfl))
              (try simp only [Act.put, List.setIfInBounds_toArray, List.set_cons_zero, List.set_cons_succ])
              refine wpAnyH_take (i := 11) (oi := ?o2_11_12) (v := ?v2_11_12) ?i2_11_12 (by kernel_rfl) (by kernel_rfl) (by kernel_rfl) (fun _ _ _ h => h) (Or.inl ⟨?g2_11_12, ?y2_11_12⟩) hS ?_
              case i2_11_12 => simp only [List.getElem?_toArray, List.getElem?_cons_succ, List.getElem?_cons_zero]; rfl
              case g2_11_12 => rfl
              case y2_11_12 => (intro w hSw; (go_simp <;> with_reducible rfl))
              (try simp only [Act.put, List.setIfInBounds_toArray, List.set_cons_zero, List.set_cons_succ])
              refine wpAnyH_take (i := 12) (oi := ?o2_12_13) (v := ?v2_12_13) ?i2_12_13 (by kernel_rfl) (by kernel_rfl) (by kernel_rfl) (fun _ _ _ h => h) (Or.inl ⟨?g2_12_13, ?y2_12_13⟩) hS ?_
              case i2_12_13 => simp only [List.getElem?_toArray, List.getElem?_cons_succ, List.getElem?_cons_zero]; rfl
              case g2_12_13 => rfl
              case y2_12_13 => (intro w hSw; (go_simp <;> with_reducible rfl))
              (try simp only [Act.put, List.setIfInBounds_toArray, List.set_cons_zero, List.set_cons_succ])
              refine wpAnyH_take (i := 13) (oi := ?o2_13_14) (v := ?v2_13_14) ?i2_13_14 (by kernel_rfl) (by kernel_rfl) (by kernel_rfl) (fun _ _ _ h => h) (Or.inl ⟨?g2_13_14, ?y2_13_14⟩) hS ?_
              case i2_13_14 => simp only [List.getElem?_toArray, List.getElem?_cons_succ, List.getElem?_cons_zero]; rfl
              case g2_13_14 => rfl
              case y2_13_14 => (intro w hSw; (go_simp <;> with_reducible rfl))
              (try simp only [Act.put, List.setIfInBounds_toArray, List.set_cons_zero, List.set_cons_succ])
              refine wpAnyH_take (i := 14) (oi := ?o2_14_15) (v := ?v2_14_15) ?i2_14_15 (by kernel_rfl) (by kernel_rfl) (by kernel_rfl) (fun _ _ _ h => h) (Or.inl ⟨?g2_14_15, ?y2_14_15⟩) hS ?_
              case i2_14_15 => simp only [List.getElem?_toArray, List.getElem?_cons_succ, List.getElem?_cons_zero]; rfl
              case g2_14_15 => rfl
              case y2_14_15 => (intro w hSw; (go_simp <;> with_reducible rfl))
              (try simp only [Act.put, List.setIfInBounds_toArray, List.set_cons_zero, List.set_cons_succ])
              refine wpAnyH_take (i := 15) (oi := ?o2_15_16) (v := ?v2_15_16) ?i2_15_16 (by kernel_rfl) (by kernel_rfl) (by kernel_rfl) (fun _ _ _ h => h) (Or.inl ⟨?g2_15_16, ?y2_15_16⟩) hS ?_
              case i2_15_16 => simp only [List.getElem?_toArray, List.getElem?_cons_succ, List.getElem?_cons_zero]; rfl
              case g2_15_16 => rfl
              case y2_15_16 => (intro w hSw; (go_simp <;> with_reducible rfl))
              (try simp only [Act.put, List.setIfInBounds_toArray, List.set_cons_zero, List.set_cons_succ])
              refine wpAnyH_take (i := 16) (oi := ?o2_16_17) (v := ?v2_16_17) ?i2_16_17 (by kernel_rfl) (by kernel_rfl) (by kernel_rfl) (fun _ _ _ h => h) (Or.inl ⟨?g2_16_17, ?y2_16_17⟩) hS ?_
              case i2_16_17 => simp only [List.getElem?_toArray, List.getElem?_cons_succ, List.getElem?_cons_zero]; rfl
              case g2_16_17 => rfl
              case y2_16_17 => (intro w hSw; have hc := hSw.2.2.1; (go_simp <;> with_reducible rfl))
              (try simp only [Act.put, List.setIfInBounds_toArray, List.set_cons_zero, List.set_cons_succ])
              refine wpAnyH_take (i := 17) (oi := ?o2_17_18) (v := ?v2_17_18) ?i2_17_18 (by kernel_rfl) (by kernel_rfl) (by kernel_rfl) (fun _ _ _ h => h) (Or.inl ⟨?g2_17_18, ?y2_17_18⟩) hS ?_
              case i2_17_18 => simp only [List.getElem?_toArray, List.getElem?_cons_succ, List.getElem?_cons_zero]; rfl
              case g2_17_18 => rfl
              case y2_17_18 => (intro w hSw; (go_simp <;> with_reducible rfl))
              (try simp only [Act.put, List.setIfInBounds_toArray, List.set_cons_zero, List.set_cons_succ])
              refine wpAnyH_take (i := 18) (oi := ?o2_18_19) (v := ?v2_18_19) ?i2_18_19 (by kernel_rfl) (by kernel_rfl) (by kernel_rfl) (fun _ _ _ h => h) (Or.inl ⟨?g2_18_19, ?y2_18_19⟩) hS ?_
              case i2_18_19 => simp only [List.getElem?_toArray, List.getElem?_cons_succ, List.getElem?_cons_zero]; rfl
              case g2_18_19 => rfl
              case y2_18_19 => (intro w hSw; (go_simp <;> with_reducible rfl))
              (try simp only [Act.put, List.setIfInBounds_toArray, List.set_cons_zero, List.set_cons_succ])
              refine wpAnyH_take (i := 19) (oi := ?o2_19_20) (v := ?v2_19_20) ?i2_19_20 (by kernel_rfl) (by kernel_rfl) (by kernel_rfl) (fun _ _ _ h => h) (Or.inl ⟨?g2_19_20, ?y2_19_20⟩) hS ?_
              case i2_19_20 => simp only [List.getElem?_toArray, List.getElem?_cons_succ, List.getElem?_cons_zero]; rfl
              case g2_19_20 => rfl
              case y2_19_20 => (intro w hSw; (go_simp <;> with_reducible rfl))
              (try simp only [Act.put, List.setIfInBounds_toArray, List.set_cons_zero, List.set_cons_succ])
              refine wpAnyH_take (i := 20) (oi := ?o2_20_21) (v := ?v2_20_21) ?i2_20_21 (by kernel_rfl) (by kernel_rfl) (by kernel_rfl) (fun _ _ _ h => h) (Or.inl ⟨?g2_20_21, ?y2_20_21⟩) hS ?_
              case i2_20_21 => simp only [List.getElem?_toArray, List.getElem?_cons_succ, List.getElem?_cons_zero]; rfl
              case g2_20_21 => rfl
              case y2_20_21 => (intro w hSw; (go_simp <;> with_reducible rfl))
              (try simp only [Act.put, List.setIfInBounds_toArray, List.set_cons_zero, List.set_cons_succ])
              refine wpAnyH_take (i := 21) (oi := ?o2_21_22) (v := ?v2_21_22) ?i2_21_22 (by kernel_rfl) (by kernel_rfl) (by kernel_rfl) (fun _ _ _ h => h) (Or.inl ⟨?g2_21_22, ?y2_21_22⟩) hS ?_
              case i2_21_22 => simp only [List.getElem?_toArray, List.getElem?_cons_succ, List.getElem?_cons_zero]; rfl
              case g2_21_22 => rfl
              case y2_21_22 => (intro w hSw; have hc := hSw.2.2.2; (go_simp <;> with_reducible rfl))
              (try simp only [Act.put, List.setIfInBounds_toArray, List.set_cons_zero, List.set_cons_succ])
              refine wpAnyH_take (i := 22) (oi := ?o2_22_23) (v := ?v2_22_23) ?i2_22_23 (by kernel_rfl) (by kernel_rfl) (by kernel_rfl) (fun _ _ _ h => h) (Or.inl ⟨?g2_22_23, ?y2_22_23⟩) hS ?_
              case i2_22_23 => simp only [List.getElem?_toArray, List.getElem?_cons_succ, List.getElem?_cons_zero]; rfl
              case g2_22_23 => rfl
              case y2_22_23 => (intro w hSw; (go_simp <;> with_reducible rfl))
              (try simp only [Act.put, List.setIfInBounds_toArray, List.set_cons_zero, List.set_cons_succ])
              refine wpAnyH_take (i := 23) (oi := ?o2_23_24) (v := ?v2_23_24) ?i2_23_24 (by kernel_rfl) (by kernel_rfl) (by kernel_rfl) (fun _ _ _ h => h) (Or.inl ⟨?g2_23_24, ?y2_23_24⟩) hS ?_
              case i2_23_24 => simp only [List.getElem?_toArray, List.getElem?_cons_succ, List.getElem?_cons_zero]; rfl
              case g2_23_24 => rfl
              case y2_23_24 => (intro w hSw; (go_simp <;> with_reducible rfl))
              (try simp only [Act.put, List.setIfInBounds_toArray, List.set_cons_zero, List.set_cons_succ])
              refine wpAnyH_take (i := 24) (oi := ?o2_24_25) (v := ?v2_24_25) ?i2_24_25 (by kernel_rfl) (by kernel_rfl) (by kernel_rfl) (fun _ _ _ h => h) (Or.inl ⟨?g2_24_25, ?y2_24_25⟩) hS ?_
              case i2_24_25 => simp only [List.getElem?_toArray, List.getElem?_cons_succ, List.getElem?_cons_zero]; rfl
              case g2_24_25 => rfl
              case y2_24_25 => (intro w hSw; (go_simp <;> with_reducible rfl))
              (try simp only [Act.put, List.setIfInBounds_toArray, List.set_cons_zero, List.set_cons_succ])
              refine wpAnyH_take (i := 25) (oi := ?o2_25_26) (v := ?v2_25_26) ?i2_25_26 (by kernel_rfl) (by kernel_rfl) (by kernel_rfl) (fun _ _ _ h => h) (Or.inl ⟨?g2_25_26, ?y2_25_26⟩) hS ?_
              case i2_25_26 => simp only [List.getElem?_toArray, List.getElem?_cons_succ, List.getElem?_cons_zero]; rfl
              case g2_25_26 => rfl
              case y2_25_26 => (intro w hSw; (go_simp <;> with_reducible rfl))
              (try simp only [Act.put, List.setIfInBounds_toArray, List.set_cons_zero, List.set_cons_succ])
              refine wpAnyH_take (i := 26) (oi := ?o2_26_27) (v := ?v2_26_27) ?i2_26_27 (by kernel_rfl) (by kernel_rfl) (by kernel_rfl) (fun _ _ _ h => h) (Or.inl ⟨?g2_26_27, ?y2_26_27⟩) hS ?_
              case i2_26_27 => simp only [List.getElem?_toArray, List.getElem?_cons_succ, List.getElem?_cons_zero]; rfl
              case g2_26_27 => rfl
              case y2_26_27 => (intro w hSw; (go_simp <;> with_reducible rfl))
              (try simp only [Act.put, List.setIfInBounds_toArray, List.set_cons_zero, List.set_cons_succ])
              refine wpAnyH_take (i := 27) (oi := ?o2_27_28) (v := ?v2_27_28) ?i2_27_28 (by kernel_rfl) (by kernel_rfl) (by kernel_rfl) (fun _ _ _ h => h) (Or.inl ⟨?g2_27_28, ?y2_27_28⟩) hS ?_
              case i2_27_28 => simp only [List.getElem?_toArray, List.getElem?_cons_succ, List.getElem?_cons_zero]; rfl
              case g2_27_28 => rfl
              case y2_27_28 => (intro w hSw; (go_simp <;> with_reducible rfl))
              (try simp only [Act.put, List.setIfInBounds_toArray, List.set_cons_zero, List.set_cons_succ])
              refine wpAnyH_done (by kernel_rfl) ?_ _
              refine NoPanic.normal ?_
              clear hS r0 r1 r3 r4
              go_wp2
              go_roundw
              case rel => first | exact ⟨j + 1, by omega, by go_num, HZ, hBe⟩ | ((repeat apply Exists.intro); exact ⟨⟨by omega, by go_num, HZ, hBe⟩, rfl⟩) | (trace_state; fail)
              case measure => simp [intOf]; omega
            · have hkb : decide (k = k') = false := decide_eq_false hkk
              have HZ := Lib.hid (HNOT.out (fun h => hkk h.2.2))
              subst htt hdd
              clear hkk
              go_wp2_with fail
              refine wp_region_noPanic ?_
              refine wp_region_held_drew (S := fun _ => True) (by kernel_rfl) trivial (fun hS => ?_)
              refine wpAnyH_take (i := 0) (oi := ?o3_0_1) (v := ?v3_0_1) ?i3_0_1 (by kernel_rfl) (by kernel_rfl) (by kernel_rfl) (fun _ _ _ h => h) (Or.inl ⟨?g3_0_1, ?y3_0_1⟩) hS ?_
              case i3_0_1 => simp only [List.getElem?_toArray, List.getElem?_cons_succ, List.getElem?_cons_zero]; rfl
              case g3_0_1 => rfl
              case y3_0_1 => (intro w hSw; (go_simp <;> with_reducible rfl))
              (try simp only [Act.put, List.setIfInBounds_toArray, List.set_cons_zero, List.set_cons_succ])
              refine wpAnyH_take (i := 1) (oi := ?o3_1_2) (v := ?v3_1_2) ?i3_1_2 (by kernel_rfl) (by kernel_rfl) (by kernel_rfl) (fun _ _ _ h => h) (Or.inl ⟨?g3_1_2, ?y3_1_2⟩) hS ?_
              case i3_1_2 => simp only [List.getElem?_toArray, List.getElem?_cons_succ, List.getElem?_cons_zero]; rfl
              case g3_1_2 => rfl
              case y3_1_2 => (intro w hSw; (go_simp <;> with_reducible rfl))
              (try simp only [Act.put, List.setIfInBounds_toArray, List.set_cons_zero, List.set_cons_succ])
              refine wpAnyH_take (i := 2) (oi := ?o3_2_3) (v := ?v3_2_3) ?i3_2_3 (by kernel_rfl) (by kernel_rfl) (by kernel_rfl) (fun _ _ _ h => h) (Or.inl ⟨?g3_2_3, ?y3_2_3⟩) hS ?_
              case i3_2_3 => simp only [List.getElem?_toArray, List.getElem?_cons_succ, List.getElem?_cons_zero]; rfl
              case g3_2_3 => rfl
              case y3_2_3 => (intro w hSw; (go_simp <;> with_reducible rfl))
              (try simp only [Act.put, List.setIfInBounds_toArray, List.set_cons_zero, List.set_cons_succ])
              refine wpAnyH_take (i := 3) (oi := ?o3_3_4) (v := ?v3_3_4) ?i3_3_4 (by kernel_rfl) (by kernel_rfl) (by kernel_rfl) (fun _ _ _ h => h) (Or.inl ⟨?g3_3_4, ?y3_3_4⟩) hS ?_
              case i3_3_4 => simp only [List.getElem?_toArray, List.getElem?_cons_succ, List.getElem?_cons_zero]; rfl
              case g3_3_4 => rfl
              case y3_3_4 => (intro w hSw; (go_simp <;> with_reducible rfl))
              (try simp only [Act.put, List.setIfInBounds_toArray, List.set_cons_zero, List.set_cons_succ])
              refine held_more (S' := fun w' => w'.cell? ⟨g, o + j * 3, none⟩ = some (.int .u64 (t : Int)) ∧ w'.cell? ⟨g', o' + j * 3, none⟩ = some (.int .u64 (t : Int)) ∧ w'.cell? ⟨g, o + j * 3 + 1, none⟩ = some (.string (txt d)) ∧ w'.cell? ⟨g', o' + j * 3 + 1, none⟩ = some (.string (txt d))) (fun _ _ => trivial) _ _ _ _ ?_
              replace hS := And.intro r0 (And.intro r3 (And.intro r1 r4))
              refine wpAnyH_take (i := 4) (oi := ?o3_4_5) (v := ?v3_4_5) ?i3_4_5 (by kernel_rfl) (by kernel_rfl) (by kernel_rfl) (fun _ _ _ h => h) (Or.inl ⟨?g3_4_5, ?y3_4_5⟩) hS ?_
              case i3_4_5 => simp only [List.getElem?_toArray, List.getElem?_cons_succ, List.getElem?_cons_zero]; rfl
              case g3_4_5 => rfl
              case y3_4_5 => (intro w hSw; have hc := hSw.1; (go_simp <;> with_reducible rfl))
              (try simp only [Act.put, List.setIfInBounds_toArray, List.set_cons_zero, List.set_cons_succ])
              refine wpAnyH_take (i := 5) (oi := ?o3_5_6) (v := ?v3_5_6) ?i3_5_6 (by kernel_rfl) (by kernel_rfl) (by kernel_rfl) (fun _ _ _ h => h) (Or.inl ⟨?g3_5_6, ?y3_5_6⟩) hS ?_
              case i3_5_6 => simp only [List.getElem?_toArray, List.getElem?_cons_succ, List.getElem?_cons_zero]; rfl
              case g3_5_6 => rfl
              case y3_5_6 => (intro w hSw; (go_simp <;> with_reducible rfl))
              (try simp only [Act.put, List.setIfInBounds_toArray, List.set_cons_zero, List.set_cons_succ])
              refine wpAnyH_take (i := 6) (oi := ?o3_6_7) (v := ?v3_6_7) ?i3_6_7 (by kernel_rfl) (by kernel_rfl) (by kernel_rfl) (fun _ _ _ h => h) (Or.inl ⟨?g3_6_7, ?y3_6_7⟩) hS ?_
              case i3_6_7 => simp only [List.getElem?_toArray, List.getElem?_cons_succ, List.getElem?_cons_zero]; rfl
              case g3_6_7 => rfl
              case y3_6_7 => (intro w hSw; (go_simp <;> with_reducible rfl))
              (try simp only [Act.put, List.setIfInBounds_toArray, List.set_cons_zero, List.set_cons_succ])
              refine wpAnyH_take (i := 7) (oi := ?o3_7_8) (v := ?v3_7_8) ?i3_7_8 (by kernel_rfl) (by kernel_rfl) (by kernel_rfl) (fun _ _ _ h => h) (Or.inl ⟨?g3_7_8, ?y3_7_8⟩) hS ?_
              case i3_7_8 => simp only [List.getElem?_toArray, List.getElem?_cons_succ, List.getElem?_cons_zero]; rfl
              case g3_7_8 => rfl
              case y3_7_8 => (intro w hSw; (go_simp <;> with_reducible rfl))
              (try simp only [Act.put, List.setIfInBounds_toArray, List.set_cons_zero, List.set_cons_succ])
              refine wpAnyH_take (i := 8) (oi := ?o3_8_9) (v := ?v3_8_9) ?i3_8_9 (by kernel_rfl) (by kernel_rfl) (by kernel_rfl) (fun _ _ _ h => h) (Or.inl ⟨?g3_8_9, ?y3_8_9⟩) hS ?_
              case i3_8_9 => simp only [List.getElem?_toArray, List.getElem?_cons_succ, List.getElem?_cons_zero]; rfl
              case g3_8_9 => rfl
              case y3_8_9 => (intro w hSw; (go_simp <;> with_reducible rfl))
              (try simp only [Act.put, List.setIfInBounds_toArray, List.set_cons_zero, List.set_cons_succ])
              refine wpAnyH_take (i := 9) (oi := ?o3_9_10) (v := ?v3_9_10) ?i3_9_10 (by kernel_rfl) (by kernel_rfl) (by kernel_rfl) (fun _ _ _ h => h) (Or.inl ⟨?g3_9_10, ?y3_9_10⟩) hS ?_
              case i3_9_10 => simp only [List.getElem?_toArray, List.getElem?_cons_succ, List.getElem?_cons_zero]; rfl
              case g3_9_10 => rfl
              case y3_9_10 => (intro w hSw; have hc := hSw.2.1; (go_simp <;> with_reducible rfl))
              (try simp only [Act.put, List.setIfInBounds_toArray, List.set_cons_zero, List.set_cons_succ])
              refine wpAnyH_take (i := 10) (oi := ?o3_10_11) (v := ?v3_10_11) ?i3_10_11 (by kernel_rfl) (by kernel_rfl) (by kernel_rfl) (fun _ _ _ h => h) (Or.inl ⟨?g3_10_11, ?y3_10_11⟩) hS ?_
              case i3_10_11 => simp only [List.getElem?_toArray, List.getElem?_cons_succ, List.getElem?_cons_zero]; rfl
              case g3_10_11 => rfl
              case y3_10_11 => (intro w hSw; (go_simp <;> with_reducible rfl))
              (try simp only [Act.put, List.setIfInBounds_toArray, List.set_cons_zero, List.set_cons_succ])
              refine wpAnyH_take (i := 11) (oi := ?o3_11_12) (v := ?v3_11_12) ?i3_11_12 (by kernel_rfl) (by kernel_rfl) (by kernel_rfl) (fun _ _ _ h => h) (Or.inl ⟨?g3_11_12, ?y3_11_12⟩) hS ?_
              case i3_11_12 => simp only [List.getElem?_toArray, List.getElem?_cons_succ, List.getElem?_cons_zero]; rfl
              case g3_11_12 => rfl
              case y3_11_12 => (intro w hSw; (go_simp <;> with_reducible rfl))
              (try simp only [Act.put, List.setIfInBounds_toArray, List.set_cons_zero, List.set_cons_succ])
              refine wpAnyH_take (i := 12) (oi := ?o3_12_13) (v := ?v3_12_13) ?i3_12_13 (by kernel_rfl) (by kernel_rfl) (by kernel_rfl) (fun _ _ _ h => h) (Or.inl ⟨?g3_12_13, ?y3_12_13⟩) hS ?_
              case i3_12_13 => simp only [List.getElem?_toArray, List.getElem?_cons_succ, List.getElem?_cons_zero]; rfl
              case g3_12_13 => rfl
              case y3_12_13 => (intro w hSw; (go_simp <;> with_reducible rfl))
              (try simp only [Act.put, List.setIfInBounds_toArray, List.set_cons_zero, List.set_cons_succ])
              refine wpAnyH_take (i := 13) (oi := ?o3_13_14) (v := ?v3_13_14) ?i3_13_14 (by kernel_rfl) (by kernel_rfl) (by kernel_rfl) (fun _ _ _ h => h) (Or.inl ⟨?g3_13_14, ?y3_13_14⟩) hS ?_
              case i3_13_14 => simp only [List.getElem?_toArray, List.getElem?_cons_succ, List.getElem?_cons_zero]; rfl
              case g3_13_14 => rfl
              case y3_13_14 => (intro w hSw; (go_simp <;> with_reducible rfl))
              (try simp only [Act.put, List.setIfInBounds_toArray, List.set_cons_zero, List.set_cons_succ])
              refine wpAnyH_take (i := 14) (oi := ?o3_14_15) (v := ?v3_14_15) ?i3_14_15 (by kernel_rfl) (by kernel_rfl) (by kernel_rfl) (fun _ _ _ h => h) (Or.inl ⟨?g3_14_15, ?y3_14_15⟩) hS ?_
              case i3_14_15 => simp only [List.getElem?_toArray, List.getElem?_cons_succ, List.getElem?_cons_zero]; rfl
              case g3_14_15 => rfl
              case y3_14_15 => (intro w hSw; (go_simp <;> with_reducible rfl))
              (try simp only [Act.put, List.setIfInBounds_toArray, List.set_cons_zero, List.set_cons_succ])
              refine wpAnyH_take (i := 15) (oi := ?o3_15_16) (v := ?v3_15_16) ?i3_15_16 (by kernel_rfl) (by kernel_rfl) (by kernel_rfl) (fun _ _ _ h => h) (Or.inl ⟨?g3_15_16, ?y3_15_16⟩) hS ?_
              case i3_15_16 => simp only [List.getElem?_toArray, List.getElem?_cons_succ, List.getElem?_cons_zero]; rfl
              case g3_15_16 => rfl
              case y3_15_16 => (intro w hSw; (go_simp <;> with_reducible rfl))
              (try simp only [Act.put, List.setIfInBounds_toArray, List.set_cons_zero, List.set_cons_succ])
              refine wpAnyH_take (i := 16) (oi := ?o3_16_17) (v := ?v3_16_17) ?i3_16_17 (by kernel_rfl) (by kernel_rfl) (by kernel_rfl) (fun _ _ _ h => h) (Or.inl ⟨?g3_16_17, ?y3_16_17⟩) hS ?_
              case i3_16_17 => simp only [List.getElem?_toArray, List.getElem?_cons_succ, List.getElem?_cons_zero]; rfl
              case g3_16_17 => rfl
              case y3_16_17 => (intro w hSw; have hc := hSw.2.2.1; (go_simp <;> with_reducible rfl))
              (try simp only [Act.put, List.setIfInBounds_toArray, List.set_cons_zero, List.set_cons_succ])
              refine wpAnyH_take (i := 17) (oi := ?o3_17_18) (v := ?v3_17_18) ?i3_17_18 (by kernel_rfl) (by kernel_rfl) (by kernel_rfl) (fun _ _ _ h => h) (Or.inl ⟨?g3_17_18, ?y3_17_18⟩) hS ?_
              case i3_17_18 => simp only [List.getElem?_toArray, List.getElem?_cons_succ, List.getElem?_cons_zero]; rfl
              case g3_17_18 => rfl
              case y3_17_18 => (intro w hSw; (go_simp <;> with_reducible rfl))
              (try simp only [Act.put, List.setIfInBounds_toArray, List.set_cons_zero, List.set_cons_succ])
              refine wpAnyH_take (i := 18) (oi := ?o3_18_19) (v := ?v3_18_19) ?i3_18_19 (by kernel_rfl) (by kernel_rfl) (by kernel_rfl) (fun _ _ _ h => h) (Or.inl ⟨?g3_18_19, ?y3_18_19⟩) hS ?_
              case i3_18_19 => simp only [List.getElem?_toArray, List.getElem?_cons_succ, List.getElem?_cons_zero]; rfl
              case g3_18_19 => rfl
              case y3_18_19 => (intro w hSw; (go_simp <;> with_reducible rfl))
              (try simp only [Act.put, List.setIfInBounds_toArray, List.set_cons_zero, List.set_cons_succ])
              refine wpAnyH_take (i := 19) (oi := ?o3_19_20) (v := ?v3_19_20) ?i3_19_20 (by kernel_rfl) (by kernel_rfl) (by kernel_rfl) (fun _ _ _ h => h) (Or.inl ⟨?g3_19_20, ?y3_19_20⟩) hS ?_
              case i3_19_20 => simp only [List.getElem?_toArray, List.getElem?_cons_succ, List.getElem?_cons_zero]; rfl
              case g3_19_20 => rfl
              case y3_19_20 => (intro w hSw; (go_simp <;> with_reducible rfl))
              (try simp only [Act.put, List.setIfInBounds_toArray, List.set_cons_zero, List.set_cons_succ])
              refine wpAnyH_take (i := 20) (oi := ?o3_20_21) (v := ?v3_20_21) ?i3_20_21 (by kernel_rfl) (by kernel_rfl) (by kernel_rfl) (fun _ _ _ h => h) (Or.inl ⟨?g3_20_21, ?y3_20_21⟩) hS ?_
              case i3_20_21 => simp only [List.getElem?_toArray, List.getElem?_cons_succ, List.getElem?_cons_zero]; rfl
              case g3_20_21 => rfl
              case y3_20_21 => (intro w hSw; (go_simp <;> with_reducible rfl))
              (try simp only [Act.put, List.setIfInBounds_toArray, List.set_cons_zero, List.set_cons_succ])
              refine wpAnyH_take (i := 21) (oi := ?o3_21_22) (v := ?v3_21_22) ?i3_21_22 (by kernel_rfl) (by kernel_rfl) (by kernel_rfl) (fun _ _ _ h => h) (Or.inl ⟨?g3_21_22, ?y3_21_22⟩) hS ?_
              case i3_21_22 => simp only [List.getElem?_toArray, List.getElem?_cons_succ, List.getElem?_cons_zero]; rfl
              case g3_21_22 => rfl
              case y3_21_22 => (intro w hSw; have hc := hSw.2.2.2; (go_simp <;> with_reducible rfl))
              (try simp only [Act.put, List.setIfInBounds_toArray, List.set_cons_zero, List.set_cons_succ])
              refine wpAnyH_take (i := 22) (oi := ?o3_22_23) (v := ?v3_22_23) ?i3_22_23 (by kernel_rfl) (by kernel_rfl) (by kernel_rfl) (fun _ _ _ h => h) (Or.inl ⟨?g3_22_23, ?y3_22_23⟩) hS ?_
              case i3_22_23 => simp only [List.getElem?_toArray, List.getElem?_cons_succ, List.getElem?_cons_zero]; rfl
              case g3_22_23 => rfl
              case y3_22_23 => (intro w hSw; (go_simp <;> with_reducible rfl))
              (try simp only [Act.put, List.setIfInBounds_toArray, List.set_cons_zero, List.set_cons_succ])
              refine wpAnyH_take (i := 23) (oi := ?o3_23_24) (v := ?v3_23_24) ?i3_23_24 (by kernel_rfl) (by kernel_rfl) (by kernel_rfl) (fun _ _ _ h => h) (Or.inl ⟨?g3_23_24, ?y3_23_24⟩) hS ?_
              case i3_23_24 => simp only [List.getElem?_toArray, List.getElem?_cons_succ, List.getElem?_cons_zero]; rfl
              case g3_23_24 => rfl
              case y3_23_24 => (intro w hSw; (go_simp <;> with_reducible rfl))
              (try simp only [Act.put, List.setIfInBounds_toArray, List.set_cons_zero, List.set_cons_succ])
              refine wpAnyH_take (i := 24) (oi := ?o3_24_25) (v := ?v3_24_25) ?i3_24_25 (by kernel_rfl) (by kernel_rfl) (by kernel_rfl) (fun _ _ _ h => h) (Or.inl ⟨?g3_24_25, ?y3_24_25⟩) hS ?_
              case i3_24_25 => simp only [List.getElem?_toArray, List.getElem?_cons_succ, List.getElem?_cons_zero]; rfl
              case g3_24_25 => rfl
              case y3_24_25 => (intro w hSw; (go_simp <;> with_reducible rfl))
              (try simp only [Act.put, List.setIfInBounds_toArray, List.set_cons_zero, List.set_cons_succ])
              refine wpAnyH_take (i := 25) (oi := ?o3_25_26) (v := ?v3_25_26) ?i3_25_26 (by kernel_rfl) (by kernel_rfl) (by kernel_rfl) (fun _ _ _ h => h) (Or.inl ⟨?g3_25_26, ?y3_25_26⟩) hS ?_
              case i3_25_26 => simp only [List.getElem?_toArray, List.getElem?_cons_succ, List.getElem?_cons_zero]; rfl
              case g3_25_26 => rfl
              case y3_25_26 => (intro w hSw; (go_simp <;> with_reducible rfl))
              (try simp only [Act.put, List.setIfInBounds_toArray, List.set_cons_zero, List.set_cons_succ])
              refine wpAnyH_take (i := 26) (oi := ?o3_26_27) (v := ?v3_26_27) ?i3_26_27 (by kernel_rfl) (by kernel_rfl) (by kernel_rfl) (fun _ _ _ h => h) (Or.inl ⟨?g3_26_27, ?y3_26_27⟩) hS ?_
              case i3_26_27 => simp only [List.getElem?_toArray, List.getElem?_cons_succ, List.getElem?_cons_zero]; rfl
              case g3_26_27 => rfl
              case y3_26_27 => (intro w hSw; (go_simp <;> with_reducible rfl))
              (try simp only [Act.put, List.setIfInBounds_toArray, List.set_cons_zero, List.set_cons_succ])
              refine wpAnyH_take (i := 27) (oi := ?o3_27_28) (v := ?v3_27_28) ?i3_27_28 (by kernel_rfl) (by kernel_rfl) (by kernel_rfl) (fun _ _ _ h => h) (Or.inl ⟨?g3_27_28, ?y3_27_28⟩) hS ?_
              case i3_27_28 => simp only [List.getElem?_toArray, List.getElem?_cons_succ, List.getElem?_cons_zero]; rfl
              case g3_27_28 => rfl
              case y3_27_28 => (intro w hSw; (go_simp <;> with_reducible rfl))
              (try simp only [Act.put, List.setIfInBounds_toArray, List.set_cons_zero, List.set_cons_succ])
              refine wpAnyH_done (by kernel_rfl) ?_ _
              refine NoPanic.normal ?_
              clear hS r0 r1 r3 r4
              go_wp2
              go_ret
              exact ⟨by rw [HZ.out]; rfl, hBe⟩
          · have hdb : ((txt d).toList == (txt d').toList) = false := by rw [txt_toList, txt_toList]; exact beq_eq_false_iff_ne.2 hdd
            have HZ := Lib.hid (HNOT.out (fun h => hdd h.2.1))
            have hdb2 : ((txt d).toList != (txt d').toList) = true := by unfold bne; rw [hdb]; rfl
            subst htt
            clear hdd
            go_wp2_with fail
            refine wp_region_noPanic ?_
            refine wp_region_held_drew (S := fun _ => True) (by kernel_rfl) trivial (fun hS => ?_)
            refine wpAnyH_take (i := 0) (oi := ?o4_0_1) (v := ?v4_0_1) ?i4_0_1 (by kernel_rfl) (by kernel_rfl) (by kernel_rfl) (fun _ _ _ h => h) (Or.inl ⟨?g4_0_1, ?y4_0_1⟩) hS ?_
            case i4_0_1 => simp only [List.getElem?_toArray, List.getElem?_cons_succ, List.getElem?_cons_zero]; rfl
            case g4_0_1 => rfl
            case y4_0_1 => (intro w hSw; (go_simp <;> with_reducible rfl))
            (try simp only [Act.put, List.setIfInBounds_toArray, List.set_cons_zero, List.set_cons_succ])
            refine wpAnyH_take (i := 1) (oi := ?o4_1_2) (v := ?v4_1_2) ?i4_1_2 (by kernel_rfl) (by kernel_rfl) (by kernel_rfl) (fun _ _ _ h => h) (Or.inl ⟨?g4_1_2, ?y4_1_2⟩) hS ?_
            case i4_1_2 => simp only [List.getElem?_toArray, List.getElem?_cons_succ, List.getElem?_cons_zero]; rfl
            case g4_1_2 => rfl
            case y4_1_2 => (intro w hSw; (go_simp <;> with_reducible rfl))
            (try simp only [Act.put, List.setIfInBounds_toArray, List.set_cons_zero, List.set_cons_succ])
            refine wpAnyH_take (i := 2) (oi := ?o4_2_3) (v := ?v4_2_3) ?i4_2_3 (by kernel_rfl) (by kernel_rfl) (by kernel_rfl) (fun _ _ _ h => h) (Or.inl ⟨?g4_2_3, ?y4_2_3⟩) hS ?_
            case i4_2_3 => simp only [List.getElem?_toArray, List.getElem?_cons_succ, List.getElem?_cons_zero]; rfl
            case g4_2_3 => rfl
            case y4_2_3 => (intro w hSw; (go_simp <;> with_reducible rfl))
            (try simp only [Act.put, List.setIfInBounds_toArray, List.set_cons_zero, List.set_cons_succ])
            refine wpAnyH_take (i := 3) (oi := ?o4_3_4) (v := ?v4_3_4) ?i4_3_4 (by kernel_rfl) (by kernel_rfl) (by kernel_rfl) (fun _ _ _ h => h) (Or.inl ⟨?g4_3_4, ?y4_3_4⟩) hS ?_
            case i4_3_4 => simp only [List.getElem?_toArray, List.getElem?_cons_succ, List.getElem?_cons_zero]; rfl
            case g4_3_4 => rfl
            case y4_3_4 => (intro w hSw; (go_simp <;> with_reducible rfl))
            (try simp only [Act.put, List.setIfInBounds_toArray, List.set_cons_zero, List.set_cons_succ])
            refine held_more (S' := fun w' => w'.cell? ⟨g, o + j * 3, none⟩ = some (.int .u64 (t : Int)) ∧ w'.cell? ⟨g', o' + j * 3, none⟩ = some (.int .u64 (t : Int)) ∧ w'.cell? ⟨g, o + j * 3 + 1, none⟩ = some (.string (txt d)) ∧ w'.cell? ⟨g', o' + j * 3 + 1, none⟩ = some (.string (txt d'))) (fun _ _ => trivial) _ _ _ _ ?_
            replace hS := And.intro r0 (And.intro r3 (And.intro r1 r4))
            refine wpAnyH_take (i := 4) (oi := ?o4_4_5) (v := ?v4_4_5) ?i4_4_5 (by kernel_rfl) (by kernel_rfl) (by kernel_rfl) (fun _ _ _ h => h) (Or.inl ⟨?g4_4_5, ?y4_4_5⟩) hS ?_
            case i4_4_5 => simp only [List.getElem?_toArray, List.getElem?_cons_succ, List.getElem?_cons_zero]; rfl
            case g4_4_5 => rfl
            case y4_4_5 => (intro w hSw; have hc := hSw.1; (go_simp <;> with_reducible rfl))
            (try simp only [Act.put, List.setIfInBounds_toArray, List.set_cons_zero, List.set_cons_succ])
            refine wpAnyH_take (i := 5) (oi := ?o4_5_6) (v := ?v4_5_6) ?i4_5_6 (by kernel_rfl) (by kernel_rfl) (by kernel_rfl) (fun _ _ _ h => h) (Or.inl ⟨?g4_5_6, ?y4_5_6⟩) hS ?_
            case i4_5_6 => simp only [List.getElem?_toArray, List.getElem?_cons_succ, List.getElem?_cons_zero]; rfl
            case g4_5_6 => rfl
            case y4_5_6 => (intro w hSw; (go_simp <;> with_reducible rfl))
            (try simp only [Act.put, List.setIfInBounds_toArray, List.set_cons_zero, List.set_cons_succ])
            refine wpAnyH_take (i := 6) (oi := ?o4_6_7) (v := ?v4_6_7) ?i4_6_7 (by kernel_rfl) (by kernel_rfl) (by kernel_rfl) (fun _ _ _ h => h) (Or.inl ⟨?g4_6_7, ?y4_6_7⟩) hS ?_
            case i4_6_7 => simp only [List.getElem?_toArray, List.getElem?_cons_succ, List.getElem?_cons_zero]; rfl
            case g4_6_7 => rfl
            case y4_6_7 => (intro w hSw; (go_simp <;> with_reducible rfl))
            (try simp only [Act.put, List.setIfInBounds_toArray, List.set_cons_zero, List.set_cons_succ])
            refine wpAnyH_take (i := 7) (oi := ?o4_7_8) (v := ?v4_7_8) ?i4_7_8 (by kernel_rfl) (by kernel_rfl) (by kernel_rfl) (fun _ _ _ h => h) (Or.inl ⟨?g4_7_8, ?y4_7_8⟩) hS ?_
            case i4_7_8 => simp only [List.getElem?_toArray, List.getElem?_cons_succ, List.getElem?_cons_zero]; rfl
            case g4_7_8 => rfl
            case y4_7_8 => (intro w hSw; (go_simp <;> with_reducible rfl))
            (try simp only [Act.put, List.setIfInBounds_toArray, List.set_cons_zero, List.set_cons_succ])
            refine wpAnyH_take (i := 8) (oi := ?o4_8_9) (v := ?v4_8_9) ?i4_8_9 (by kernel_rfl) (by kernel_rfl) (by kernel_rfl) (fun _ _ _ h => h) (Or.inl ⟨?g4_8_9, ?y4_8_9⟩) hS ?_
            case i4_8_9 => simp only [List.getElem?_toArray, List.getElem?_cons_succ, List.getElem?_cons_zero]; rfl
            case g4_8_9 => rfl
            case y4_8_9 => (intro w hSw; (go_simp <;> with_reducible rfl))
            (try simp only [Act.put, List.setIfInBounds_toArray, List.set_cons_zero, List.set_cons_succ])
            refine wpAnyH_take (i := 9) (oi := ?o4_9_10) (v := ?v4_9_10) ?i4_9_10 (by kernel_rfl) (by kernel_rfl) (by kernel_rfl) (fun _ _ _ h => h) (Or.inl ⟨?g4_9_10, ?y4_9_10⟩) hS ?_
            case i4_9_10 => simp only [List.getElem?_toArray, List.getElem?_cons_succ, List.getElem?_cons_zero]; rfl
            case g4_9_10 => rfl
            case y4_9_10 => (intro w hSw; have hc := hSw.2.1; (go_simp <;> with_reducible rfl))
            (try simp only [Act.put, List.setIfInBounds_toArray, List.set_cons_zero, List.set_cons_succ])
            refine wpAnyH_take (i := 10) (oi := ?o4_10_11) (v := ?v4_10_11) ?i4_10_11 (by kernel_rfl) (by kernel_rfl) (by kernel_rfl) (fun _ _ _ h => h) (Or.inl ⟨?g4_10_11, ?y4_10_11⟩) hS ?_
            case i4_10_11 => simp only [List.getElem?_toArray, List.getElem?_cons_succ, List.getElem?_cons_zero]; rfl
            case g4_10_11 => rfl
            case y4_10_11 => (intro w hSw; (go_simp <;> with_reducible rfl))
            (try simp only [Act.put, List.setIfInBounds_toArray, List.set_cons_zero, List.set_cons_succ])
            refine wpAnyH_take (i := 11) (oi := ?o4_11_12) (v := ?v4_11_12) ?i4_11_12 (by kernel_rfl) (by kernel_rfl) (by kernel_rfl) (fun _ _ _ h => h) (Or.inl ⟨?g4_11_12, ?y4_11_12⟩) hS ?_
            case i4_11_12 => simp only [List.getElem?_toArray, List.getElem?_cons_succ, List.getElem?_cons_zero]; rfl
            case g4_11_12 => rfl
            case y4_11_12 => (intro w hSw; (go_simp <;> with_reducible rfl))
            (try simp only [Act.put, List.setIfInBounds_toArray, List.set_cons_zero, List.set_cons_succ])
            refine wpAnyH_take (i := 12) (oi := ?o4_12_13) (v := ?v4_12_13) ?i4_12_13 (by kernel_rfl) (by kernel_rfl) (by kernel_rfl) (fun _ _ _ h => h) (Or.inl ⟨?g4_12_13, ?y4_12_13⟩) hS ?_
            case i4_12_13 => simp only [List.getElem?_toArray, List.getElem?_cons_succ, List.getElem?_cons_zero]; rfl
            case g4_12_13 => rfl
            case y4_12_13 => (intro w hSw; (go_simp <;> with_reducible rfl))
            (try simp only [Act.put, List.setIfInBounds_toArray, List.set_cons_zero, List.set_cons_succ])
            refine wpAnyH_take (i := 13) (oi := ?o4_13_14) (v := ?v4_13_14) ?i4_13_14 (by kernel_rfl) (by kernel_rfl) (by kernel_rfl) (fun _ _ _ h => h) (Or.inl ⟨?g4_13_14, ?y4_13_14⟩) hS ?_
            case i4_13_14 => simp only [List.getElem?_toArray, List.getElem?_cons_succ, List.getElem?_cons_zero]; rfl
            case g4_13_14 => rfl
            case y4_13_14 => (intro w hSw; (go_simp <;> with_reducible rfl))
            (try simp only [Act.put, List.setIfInBounds_toArray, List.set_cons_zero, List.set_cons_succ])
            refine wpAnyH_take (i := 14) (oi := ?o4_14_15) (v := ?v4_14_15) ?i4_14_15 (by kernel_rfl) (by kernel_rfl) (by kernel_rfl) (fun _ _ _ h => h) (Or.inl ⟨?g4_14_15, ?y4_14_15⟩) hS ?_
            case i4_14_15 => simp only [List.getElem?_toArray, List.getElem?_cons_succ, List.getElem?_cons_zero]; rfl
            case g4_14_15 => rfl
            case y4_14_15 => (intro w hSw; (go_simp <;> with_reducible rfl))
            (try simp only [Act.put, List.setIfInBounds_toArray, List.set_cons_zero, List.set_cons_succ])
            refine wpAnyH_take (i := 15) (oi := ?o4_15_16) (v := ?v4_15_16) ?i4_15_16 (by kernel_rfl) (by kernel_rfl) (by kernel_rfl) (fun _ _ _ h => h) (Or.inl ⟨?g4_15_16, ?y4_15_16⟩) hS ?_
            case i4_15_16 => simp only [List.getElem?_toArray, List.getElem?_cons_succ, List.getElem?_cons_zero]; rfl
            case g4_15_16 => rfl
            case y4_15_16 => (intro w hSw; (go_simp <;> with_reducible rfl))
            (try simp only [Act.put, List.setIfInBounds_toArray, List.set_cons_zero, List.set_cons_succ])
            refine wpAnyH_take (i := 16) (oi := ?o4_16_17) (v := ?v4_16_17) ?i4_16_17 (by kernel_rfl) (by kernel_rfl) (by kernel_rfl) (fun _ _ _ h => h) (Or.inl ⟨?g4_16_17, ?y4_16_17⟩) hS ?_
            case i4_16_17 => simp only [List.getElem?_toArray, List.getElem?_cons_succ, List.getElem?_cons_zero]; rfl
            case g4_16_17 => rfl
            case y4_16_17 => (intro w hSw; have hc := hSw.2.2.1; (go_simp <;> with_reducible rfl))
            (try simp only [Act.put, List.setIfInBounds_toArray, List.set_cons_zero, List.set_cons_succ])
            refine wpAnyH_take (i := 17) (oi := ?o4_17_18) (v := ?v4_17_18) ?i4_17_18 (by kernel_rfl) (by kernel_rfl) (by kernel_rfl) (fun _ _ _ h => h) (Or.inl ⟨?g4_17_18, ?y4_17_18⟩) hS ?_
            case i4_17_18 => simp only [List.getElem?_toArray, List.getElem?_cons_succ, List.getElem?_cons_zero]; rfl
            case g4_17_18 => rfl
            case y4_17_18 => (intro w hSw; (go_simp <;> with_reducible rfl))
            (try simp only [Act.put, List.setIfInBounds_toArray, List.set_cons_zero, List.set_cons_succ])
            refine wpAnyH_take (i := 18) (oi := ?o4_18_19) (v := ?v4_18_19) ?i4_18_19 (by kernel_rfl) (by kernel_rfl) (by kernel_rfl) (fun _ _ _ h => h) (Or.inl ⟨?g4_18_19, ?y4_18_19⟩) hS ?_
            case i4_18_19 => simp only [List.getElem?_toArray, List.getElem?_cons_succ, List.getElem?_cons_zero]; rfl
            case g4_18_19 => rfl
            case y4_18_19 => (intro w hSw; (go_simp <;> with_reducible rfl))
            (try simp only [Act.put, List.setIfInBounds_toArray, List.set_cons_zero, List.set_cons_succ])
            refine wpAnyH_take (i := 19) (oi := ?o4_19_20) (v := ?v4_19_20) ?i4_19_20 (by kernel_rfl) (by kernel_rfl) (by kernel_rfl) (fun _ _ _ h => h) (Or.inl ⟨?g4_19_20, ?y4_19_20⟩) hS ?_
            case i4_19_20 => simp only [List.getElem?_toArray, List.getElem?_cons_succ, List.getElem?_cons_zero]; rfl
            case g4_19_20 => rfl
            case y4_19_20 => (intro w hSw; (go_simp <;> with_reducible rfl))
            (try simp only [Act.put, List.setIfInBounds_toArray, List.set_cons_zero, List.set_cons_succ])
            refine wpAnyH_take (i := 20) (oi := ?o4_20_21) (v := ?v4_20_21) ?i4_20_21 (by kernel_rfl) (by kernel_rfl) (by kernel_rfl) (fun _ _ _ h => h) (Or.inl ⟨?g4_20_21, ?y4_20_21⟩) hS ?_
            case i4_20_21 => simp only [List.getElem?_toArray, List.getElem?_cons_succ, List.getElem?_cons_zero]; rfl
            case g4_20_21 => rfl
            case y4_20_21 => (intro w hSw; (go_simp <;> with_reducible rfl))
            (try simp only [Act.put, List.setIfInBounds_toArray, List.set_cons_zero, List.set_cons_succ])
            refine wpAnyH_take (i := 21) (oi := ?o4_21_22) (v := ?v4_21_22) ?i4_21_22 (by kernel_rfl) (by kernel_rfl) (by kernel_rfl) (fun _ _ _ h => h) (Or.inl ⟨?g4_21_22, ?y4_21_22⟩) hS ?_
            case i4_21_22 => simp only [List.getElem?_toArray, List.getElem?_cons_succ, List.getElem?_cons_zero]; rfl
            case g4_21_22 => rfl
            case y4_21_22 => (intro w hSw; have hc := hSw.2.2.2; (go_simp <;> with_reducible rfl))
            (try simp only [Act.put, List.setIfInBounds_toArray, List.set_cons_zero, List.set_cons_succ])
            refine wpAnyH_take (i := 22) (oi := ?o4_22_23) (v := ?v4_22_23) ?i4_22_23 (by kernel_rfl) (by kernel_rfl) (by kernel_rfl) (fun _ _ _ h => h) (Or.inl ⟨?g4_22_23, ?y4_22_23⟩) hS ?_
            case i4_22_23 => simp only [List.getElem?_toArray, List.getElem?_cons_succ, List.getElem?_cons_zero]; rfl
            case g4_22_23 => rfl
            case y4_22_23 => (intro w hSw; (go_simp <;> with_reducible rfl))
            (try simp only [Act.put, List.setIfInBounds_toArray, List.set_cons_zero, List.set_cons_succ])
            refine wpAnyH_take (i := 23) (oi := ?o4_23_24) (v := ?v4_23_24) ?i4_23_24 (by kernel_rfl) (by kernel_rfl) (by kernel_rfl) (fun _ _ _ h => h) (Or.inl ⟨?g4_23_24, ?y4_23_24⟩) hS ?_
            case i4_23_24 => simp only [List.getElem?_toArray, List.getElem?_cons_succ, List.getElem?_cons_zero]; rfl
            case g4_23_24 => rfl
            case y4_23_24 => (intro w hSw; (go_simp <;> with_reducible rfl))
            (try simp only [Act.put, List.setIfInBounds_toArray, List.set_cons_zero, List.set_cons_succ])
            refine wpAnyH_take (i := 24) (oi := ?o4_24_25) (v := ?v4_24_25) ?i4_24_25 (by kernel_rfl) (by kernel_rfl) (by kernel_rfl) (fun _ _ _ h => h) (Or.inl ⟨?g4_24_25, ?y4_24_25⟩) hS ?_
            case i4_24_25 => simp only [List.getElem?_toArray, List.getElem?_cons_succ, List.getElem?_cons_zero]; rfl
            case g4_24_25 => rfl
            case y4_24_25 => (intro w hSw; (go_simp <;> with_reducible rfl))
            (try simp only [Act.put, List.setIfInBounds_toArray, List.set_cons_zero, List.set_cons_succ])
            refine wpAnyH_take (i := 25) (oi := ?o4_25_26) (v := undef) ?i4_25_26 (by kernel_rfl) (by kernel_rfl) (by kernel_rfl) (fun _ _ _ h => h) (Or.inr ⟨?g4_25_26, rfl⟩) hS ?_
            case i4_25_26 => simp only [List.getElem?_toArray, List.getElem?_cons_succ, List.getElem?_cons_zero]; rfl
            case g4_25_26 => rfl
            (try simp only [Act.put, List.setIfInBounds_toArray, List.set_cons_zero, List.set_cons_succ])
            refine wpAnyH_take (i := 26) (oi := ?o4_26_27) (v := undef) ?i4_26_27 (by kernel_rfl) (by kernel_rfl) (by kernel_rfl) (fun _ _ _ h => h) (Or.inr ⟨?g4_26_27, rfl⟩) hS ?_
            case i4_26_27 => simp only [List.getElem?_toArray, List.getElem?_cons_succ, List.getElem?_cons_zero]; rfl
            case g4_26_27 => rfl
            (try simp only [Act.put, List.setIfInBounds_toArray, List.set_cons_zero, List.set_cons_succ])
            refine wpAnyH_take (i := 27) (oi := ?o4_27_28) (v := ?v4_27_28) ?i4_27_28 (by kernel_rfl) (by kernel_rfl) (by kernel_rfl) (fun _ _ _ h => h) (Or.inl ⟨?g4_27_28, ?y4_27_28⟩) hS ?_
            case i4_27_28 => simp only [List.getElem?_toArray, List.getElem?_cons_succ, List.getElem?_cons_zero]; rfl
            case g4_27_28 => rfl
            case y4_27_28 => (intro w hSw; (go_simp <;> with_reducible rfl))
            (try simp only [Act.put, List.setIfInBounds_toArray, List.set_cons_zero, List.set_cons_succ])
            refine wpAnyH_done (by kernel_rfl) ?_ _
            refine NoPanic.normal ?_
            clear hS r0 r1 r3 r4
            go_wp2
            go_ret
            exact ⟨by rw [HZ.out]; rfl, hBe⟩
        · have htb : ((t : Int) == (t' : Int)) = false := beq_eq_false_iff_ne.2 (by omega)
          have htb2 : ((t : Int) != (t' : Int)) = true := by unfold bne; rw [htb]; rfl
          have HZ := Lib.hid (HNOT.out (fun h => htt h.1))
          clear htt
          go_wp2_with fail
          refine wp_region_noPanic ?_
          refine wp_region_held_drew (S := fun _ => True) (by kernel_rfl) trivial (fun hS => ?_)
          refine wpAnyH_take (i := 0) (oi := ?o5_0_1) (v := ?v5_0_1) ?i5_0_1 (by kernel_rfl) (by kernel_rfl) (by kernel_rfl) (fun _ _ _ h => h) (Or.inl ⟨?g5_0_1, ?y5_0_1⟩) hS ?_
          case i5_0_1 => simp only [List.getElem?_toArray, List.getElem?_cons_succ, List.getElem?_cons_zero]; rfl
          case g5_0_1 => rfl
          case y5_0_1 => (intro w hSw; (go_simp <;> with_reducible rfl))
          (try simp only [Act.put, List.setIfInBounds_toArray, List.set_cons_zero, List.set_cons_succ])
          refine wpAnyH_take (i := 1) (oi := ?o5_1_2) (v := ?v5_1_2) ?i5_1_2 (by kernel_rfl) (by kernel_rfl) (by kernel_rfl) (fun _ _ _ h => h) (Or.inl ⟨?g5_1_2, ?y5_1_2⟩) hS ?_
          case i5_1_2 => simp only [List.getElem?_toArray, List.getElem?_cons_succ, List.getElem?_cons_zero]; rfl
          case g5_1_2 => rfl
          case y5_1_2 => (intro w hSw; (go_simp <;> with_reducible rfl))
          (try simp only [Act.put, List.setIfInBounds_toArray, List.set_cons_zero, List.set_cons_succ])
          refine wpAnyH_take (i := 2) (oi := ?o5_2_3) (v := ?v5_2_3) ?i5_2_3 (by kernel_rfl) (by kernel_rfl) (by kernel_rfl) (fun _ _ _ h => h) (Or.inl ⟨?g5_2_3, ?y5_2_3⟩) hS ?_
          case i5_2_3 => simp only [List.getElem?_toArray, List.getElem?_cons_succ, List.getElem?_cons_zero]; rfl
          case g5_2_3 => rfl
          case y5_2_3 => (intro w hSw; (go_simp <;> with_reducible rfl))
          (try simp only [Act.put, List.setIfInBounds_toArray, List.set_cons_zero, List.set_cons_succ])
          refine wpAnyH_take (i := 3) (oi := ?o5_3_4) (v := ?v5_3_4) ?i5_3_4 (by kernel_rfl) (by kernel_rfl) (by kernel_rfl) (fun _ _ _ h => h) (Or.inl ⟨?g5_3_4, ?y5_3_4⟩) hS ?_
          case i5_3_4 => simp only [List.getElem?_toArray, List.getElem?_cons_succ, List.getElem?_cons_zero]; rfl
          case g5_3_4 => rfl
          case y5_3_4 => (intro w hSw; (go_simp <;> with_reducible rfl))
          (try simp only [Act.put, List.setIfInBounds_toArray, List.set_cons_zero, List.set_cons_succ])
          refine held_more (S' := fun w' => w'.cell? ⟨g, o + j * 3, none⟩ = some (.int .u64 (t : Int)) ∧ w'.cell? ⟨g', o' + j * 3, none⟩ = some (.int .u64 (t' : Int))) (fun _ _ => trivial) _ _ _ _ ?_
          replace hS := And.intro r0 r3
          refine wpAnyH_take (i := 4) (oi := ?o5_4_5) (v := ?v5_4_5) ?i5_4_5 (by kernel_rfl) (by kernel_rfl) (by kernel_rfl) (fun _ _ _ h => h) (Or.inl ⟨?g5_4_5, ?y5_4_5⟩) hS ?_
          case i5_4_5 => simp only [List.getElem?_toArray, List.getElem?_cons_succ, List.getElem?_cons_zero]; rfl
          case g5_4_5 => rfl
          case y5_4_5 => (intro w hSw; have hc := hSw.1; (go_simp <;> with_reducible rfl))
          (try simp only [Act.put, List.setIfInBounds_toArray, List.set_cons_zero, List.set_cons_succ])
          refine wpAnyH_take (i := 5) (oi := ?o5_5_6) (v := ?v5_5_6) ?i5_5_6 (by kernel_rfl) (by kernel_rfl) (by kernel_rfl) (fun _ _ _ h => h) (Or.inl ⟨?g5_5_6, ?y5_5_6⟩) hS ?_
          case i5_5_6 => simp only [List.getElem?_toArray, List.getElem?_cons_succ, List.getElem?_cons_zero]; rfl
          case g5_5_6 => rfl
          case y5_5_6 => (intro w hSw; (go_simp <;> with_reducible rfl))
          (try simp only [Act.put, List.setIfInBounds_toArray, List.set_cons_zero, List.set_cons_succ])
          refine wpAnyH_take (i := 6) (oi := ?o5_6_7) (v := ?v5_6_7) ?i5_6_7 (by kernel_rfl) (by kernel_rfl) (by kernel_rfl) (fun _ _ _ h => h) (Or.inl ⟨?g5_6_7, ?y5_6_7⟩) hS ?_
          case i5_6_7 => simp only [List.getElem?_toArray, List.getElem?_cons_succ, List.getElem?_cons_zero]; rfl
          case g5_6_7 => rfl
          case y5_6_7 => (intro w hSw; (go_simp <;> with_reducible rfl))
          (try simp only [Act.put, List.setIfInBounds_toArray, List.set_cons_zero, List.set_cons_succ])
          refine wpAnyH_take (i := 7) (oi := ?o5_7_8) (v := ?v5_7_8) ?i5_7_8 (by kernel_rfl) (by kernel_rfl) (by kernel_rfl) (fun _ _ _ h => h) (Or.inl ⟨?g5_7_8, ?y5_7_8⟩) hS ?_
          case i5_7_8 => simp only [List.getElem?_toArray, List.getElem?_cons_succ, List.getElem?_cons_zero]; rfl
          case g5_7_8 => rfl
          case y5_7_8 => (intro w hSw; (go_simp <;> with_reducible rfl))
          (try simp only [Act.put, List.setIfInBounds_toArray, List.set_cons_zero, List.set_cons_succ])
          refine wpAnyH_take (i := 8) (oi := ?o5_8_9) (v := ?v5_8_9) ?i5_8_9 (by kernel_rfl) (by kernel_rfl) (by kernel_rfl) (fun _ _ _ h => h) (Or.inl ⟨?g5_8_9, ?y5_8_9⟩) hS ?_
          case i5_8_9 => simp only [List.getElem?_toArray, List.getElem?_cons_succ, List.getElem?_cons_zero]; rfl
          case g5_8_9 => rfl
          case y5_8_9 => (intro w hSw; (go_simp <;> with_reducible rfl))
          (try simp only [Act.put, List.setIfInBounds_toArray, List.set_cons_zero, List.set_cons_succ])
          refine wpAnyH_take (i := 9) (oi := ?o5_9_10) (v := ?v5_9_10) ?i5_9_10 (by kernel_rfl) (by kernel_rfl) (by kernel_rfl) (fun _ _ _ h => h) (Or.inl ⟨?g5_9_10, ?y5_9_10⟩) hS ?_
          case i5_9_10 => simp only [List.getElem?_toArray, List.getElem?_cons_succ, List.getElem?_cons_zero]; rfl
          case g5_9_10 => rfl
          case y5_9_10 => (intro w hSw; have hc := hSw.2; (go_simp <;> with_reducible rfl))
          (try simp only [Act.put, List.setIfInBounds_toArray, List.set_cons_zero, List.set_cons_succ])
          refine wpAnyH_take (i := 10) (oi := ?o5_10_11) (v := ?v5_10_11) ?i5_10_11 (by kernel_rfl) (by kernel_rfl) (by kernel_rfl) (fun _ _ _ h => h) (Or.inl ⟨?g5_10_11, ?y5_10_11⟩) hS ?_
          case i5_10_11 => simp only [List.getElem?_toArray, List.getElem?_cons_succ, List.getElem?_cons_zero]; rfl
          case g5_10_11 => rfl
          case y5_10_11 => (intro w hSw; (go_simp <;> with_reducible rfl))
          (try simp only [Act.put, List.setIfInBounds_toArray, List.set_cons_zero, List.set_cons_succ])
          refine wpAnyH_take (i := 11) (oi := ?o5_11_12) (v := ?v5_11_12) ?i5_11_12 (by kernel_rfl) (by kernel_rfl) (by kernel_rfl) (fun _ _ _ h => h) (Or.inl ⟨?g5_11_12, ?y5_11_12⟩) hS ?_
          case i5_11_12 => simp only [List.getElem?_toArray, List.getElem?_cons_succ, List.getElem?_cons_zero]; rfl
          case g5_11_12 => rfl
          case y5_11_12 => (intro w hSw; (go_simp <;> with_reducible rfl))
          (try simp only [Act.put, List.setIfInBounds_toArray, List.set_cons_zero, List.set_cons_succ])
          refine wpAnyH_take (i := 12) (oi := ?o5_12_13) (v := undef) ?i5_12_13 (by kernel_rfl) (by kernel_rfl) (by kernel_rfl) (fun _ _ _ h => h) (Or.inr ⟨?g5_12_13, rfl⟩) hS ?_
          case i5_12_13 => simp only [List.getElem?_toArray, List.getElem?_cons_succ, List.getElem?_cons_zero]; rfl
          case g5_12_13 => rfl
          (try simp only [Act.put, List.setIfInBounds_toArray, List.set_cons_zero, List.set_cons_succ])
          refine wpAnyH_take (i := 13) (oi := ?o5_13_14) (v := undef) ?i5_13_14 (by kernel_rfl) (by kernel_rfl) (by kernel_rfl) (fun _ _ _ h => h) (Or.inr ⟨?g5_13_14, rfl⟩) hS ?_
          case i5_13_14 => simp only [List.getElem?_toArray, List.getElem?_cons_succ, List.getElem?_cons_zero]; rfl
          case g5_13_14 => rfl
          (try simp only [Act.put, List.setIfInBounds_toArray, List.set_cons_zero, List.set_cons_succ])
          refine wpAnyH_take (i := 14) (oi := ?o5_14_15) (v := undef) ?i5_14_15 (by kernel_rfl) (by kernel_rfl) (by kernel_rfl) (fun _ _ _ h => h) (Or.inr ⟨?g5_14_15, rfl⟩) hS ?_
          case i5_14_15 => simp only [List.getElem?_toArray, List.getElem?_cons_succ, List.getElem?_cons_zero]; rfl
          case g5_14_15 => rfl
          (try simp only [Act.put, List.setIfInBounds_toArray, List.set_cons_zero, List.set_cons_succ])
          refine wpAnyH_take (i := 15) (oi := ?o5_15_16) (v := undef) ?i5_15_16 (by kernel_rfl) (by kernel_rfl) (by kernel_rfl) (fun _ _ _ h => h) (Or.inr ⟨?g5_15_16, rfl⟩) hS ?_
          case i5_15_16 => simp only [List.getElem?_toArray, List.getElem?_cons_succ, List.getElem?_cons_zero]; rfl
          case g5_15_16 => rfl
          (try simp only [Act.put, List.setIfInBounds_toArray, List.set_cons_zero, List.set_cons_succ])
          refine wpAnyH_take (i := 16) (oi := ?o5_16_17) (v := undef) ?i5_16_17 (by kernel_rfl) (by kernel_rfl) (by kernel_rfl) (fun _ _ _ h => h) (Or.inr ⟨?g5_16_17, rfl⟩) hS ?_
          case i5_16_17 => simp only [List.getElem?_toArray, List.getElem?_cons_succ, List.getElem?_cons_zero]; rfl
          case g5_16_17 => rfl
          (try simp only [Act.put, List.setIfInBounds_toArray, List.set_cons_zero, List.set_cons_succ])
          refine wpAnyH_take (i := 17) (oi := ?o5_17_18) (v := undef) ?i5_17_18 (by kernel_rfl) (by kernel_rfl) (by kernel_rfl) (fun _ _ _ h => h) (Or.inr ⟨?g5_17_18, rfl⟩) hS ?_
          case i5_17_18 => simp only [List.getElem?_toArray, List.getElem?_cons_succ, List.getElem?_cons_zero]; rfl
          case g5_17_18 => rfl
          (try simp only [Act.put, List.setIfInBounds_toArray, List.set_cons_zero, List.set_cons_succ])
          refine wpAnyH_take (i := 18) (oi := ?o5_18_19) (v := undef) ?i5_18_19 (by kernel_rfl) (by kernel_rfl) (by kernel_rfl) (fun _ _ _ h => h) (Or.inr ⟨?g5_18_19, rfl⟩) hS ?_
          case i5_18_19 => simp only [List.getElem?_toArray, List.getElem?_cons_succ, List.getElem?_cons_zero]; rfl
          case g5_18_19 => rfl
          (try simp only [Act.put, List.setIfInBounds_toArray, List.set_cons_zero, List.set_cons_succ])
          refine wpAnyH_take (i := 19) (oi := ?o5_19_20) (v := undef) ?i5_19_20 (by kernel_rfl) (by kernel_rfl) (by kernel_rfl) (fun _ _ _ h => h) (Or.inr ⟨?g5_19_20, rfl⟩) hS ?_
          case i5_19_20 => simp only [List.getElem?_toArray, List.getElem?_cons_succ, List.getElem?_cons_zero]; rfl
          case g5_19_20 => rfl
          (try simp only [Act.put, List.setIfInBounds_toArray, List.set_cons_zero, List.set_cons_succ])
          refine wpAnyH_take (i := 20) (oi := ?o5_20_21) (v := undef) ?i5_20_21 (by kernel_rfl) (by kernel_rfl) (by kernel_rfl) (fun _ _ _ h => h) (Or.inr ⟨?g5_20_21, rfl⟩) hS ?_
          case i5_20_21 => simp only [List.getElem?_toArray, List.getElem?_cons_succ, List.getElem?_cons_zero]; rfl
          case g5_20_21 => rfl
          (try simp only [Act.put, List.setIfInBounds_toArray, List.set_cons_zero, List.set_cons_succ])
          refine wpAnyH_take (i := 21) (oi := ?o5_21_22) (v := undef) ?i5_21_22 (by kernel_rfl) (by kernel_rfl) (by kernel_rfl) (fun _ _ _ h => h) (Or.inr ⟨?g5_21_22, rfl⟩) hS ?_
          case i5_21_22 => simp only [List.getElem?_toArray, List.getElem?_cons_succ, List.getElem?_cons_zero]; rfl
          case g5_21_22 => rfl
          (try simp only [Act.put, List.setIfInBounds_toArray, List.set_cons_zero, List.set_cons_succ])
          refine wpAnyH_take (i := 22) (oi := ?o5_22_23) (v := undef) ?i5_22_23 (by kernel_rfl) (by kernel_rfl) (by kernel_rfl) (fun _ _ _ h => h) (Or.inr ⟨?g5_22_23, rfl⟩) hS ?_
          case i5_22_23 => simp only [List.getElem?_toArray, List.getElem?_cons_succ, List.getElem?_cons_zero]; rfl
          case g5_22_23 => rfl
          (try simp only [Act.put, List.setIfInBounds_toArray, List.set_cons_zero, List.set_cons_succ])
          refine wpAnyH_take (i := 23) (oi := ?o5_23_24) (v := ?v5_23_24) ?i5_23_24 (by kernel_rfl) (by kernel_rfl) (by kernel_rfl) (fun _ _ _ h => h) (Or.inl ⟨?g5_23_24, ?y5_23_24⟩) hS ?_
          case i5_23_24 => simp only [List.getElem?_toArray, List.getElem?_cons_succ, List.getElem?_cons_zero]; rfl
          case g5_23_24 => rfl
          case y5_23_24 => (intro w hSw; (go_simp <;> with_reducible rfl))
          (try simp only [Act.put, List.setIfInBounds_toArray, List.set_cons_zero, List.set_cons_succ])
          refine wpAnyH_take (i := 24) (oi := ?o5_24_25) (v := ?v5_24_25) ?i5_24_25 (by kernel_rfl) (by kernel_rfl) (by kernel_rfl) (fun _ _ _ h => h) (Or.inl ⟨?g5_24_25, ?y5_24_25⟩) hS ?_
          case i5_24_25 => simp only [List.getElem?_toArray, List.getElem?_cons_succ, List.getElem?_cons_zero]; rfl
          case g5_24_25 => rfl
          case y5_24_25 => (intro w hSw; (go_simp <;> with_reducible rfl))
          (try simp only [Act.put, List.setIfInBounds_toArray, List.set_cons_zero, List.set_cons_succ])
          refine wpAnyH_take (i := 25) (oi := ?o5_25_26) (v := undef) ?i5_25_26 (by kernel_rfl) (by kernel_rfl) (by kernel_rfl) (fun _ _ _ h => h) (Or.inr ⟨?g5_25_26, rfl⟩) hS ?_
          case i5_25_26 => simp only [List.getElem?_toArray, List.getElem?_cons_succ, List.getElem?_cons_zero]; rfl
          case g5_25_26 => rfl
          (try simp only [Act.put, List.setIfInBounds_toArray, List.set_cons_zero, List.set_cons_succ])
          refine wpAnyH_take (i := 26) (oi := ?o5_26_27) (v := undef) ?i5_26_27 (by kernel_rfl) (by kernel_rfl) (by kernel_rfl) (fun _ _ _ h => h) (Or.inr ⟨?g5_26_27, rfl⟩) hS ?_
          case i5_26_27 => simp only [List.getElem?_toArray, List.getElem?_cons_succ, List.getElem?_cons_zero]; rfl
          case g5_26_27 => rfl
          (try simp only [Act.put, List.setIfInBounds_toArray, List.set_cons_zero, List.set_cons_succ])
          refine wpAnyH_take (i := 27) (oi := ?o5_27_28) (v := ?v5_27_28) ?i5_27_28 (by kernel_rfl) (by kernel_rfl) (by kernel_rfl) (fun _ _ _ h => h) (Or.inl ⟨?g5_27_28, ?y5_27_28⟩) hS ?_
          case i5_27_28 => simp only [List.getElem?_toArray, List.getElem?_cons_succ, List.getElem?_cons_zero]; rfl
          case g5_27_28 => rfl
          case y5_27_28 => (intro w hSw; (go_simp <;> with_reducible rfl))
          (try simp only [Act.put, List.setIfInBounds_toArray, List.set_cons_zero, List.set_cons_succ])
          refine wpAnyH_done (by kernel_rfl) ?_ _
          refine NoPanic.normal ?_
          clear hS r0 r1 r3 r4
          go_wp2
          go_ret
          exact ⟨by rw [HZ.out]; rfl, hBe⟩
      · obtain rfl : j = a.len := by omega
        have hab : a = b := by
          have h := HT.out
          rw [Fo.take_all] at h
          have h2 : Fo.take a.len b = b := by
            have h3 : a.len = b.len := by omega
            rw [h3, Fo.take_all]
          rw [h2] at h
          exact h
        have HZ : Hid (decide (a = b) = true) := Lib.hid (decide_eq_true hab)
        clear hab hlt
        go_wp2
        go_ret
        exact ⟨by rw [HZ.out]; rfl, hB⟩
  · have hlb : ((a.len : Int) == (b.len : Int)) = false := beq_eq_false_iff_ne.2 (by omega)
    have HZ : Hid (decide (a = b) = false) := Lib.hid (decide_eq_false (fun h => hll (by rw [h])))
    clear hll
    go_enter Try.func19, Try.ntmps19
    go_wp2
    go_ret
    exact ⟨by rw [HZ.out]; rfl, Below.refl _ _⟩

end Go.Proofs.Ytdpaijechogmlaa
