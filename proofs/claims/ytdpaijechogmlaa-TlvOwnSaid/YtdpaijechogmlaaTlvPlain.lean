/-
  What the laws' function plain makes: the same items, as the document has them, in new memory. No condition but those of each theorem.
-/
import Derived.Test.YtdpaijechogmlaaTlvMany
import Derived.Test.YtdpaijechogmlaaTlvOwn
namespace Go.Proofs.Ytdpaijechogmlaa
open Go.RowKit
set_option linter.unusedSimpArgs false
attribute [local go_sem ↓] Go.wp_at_zero Go.wp_at_succ

theorem Try.infoI : (Try.prog.info? 49).map (fun i => (i.zero, i.size, i.bytes)) = some (some (.agg #[.int .u64 0, .string ⟨#[]⟩, .slice none 0 0]), 3, 48) := by kernel_rfl
theorem zeroI : (Value.agg #[.int .u64 0, .string ⟨#[]⟩, .slice none 0 0]).cells.size = 3 := by kernel_rfl

theorem Rd.keepS {w w' : World} {db B : Nat} {v : Value} {d : List UInt8} (h : Rd w db v d) (hs : 0 < d.length → db < B) (hb : Below B w w') : Rd w' db v d := by
  by_cases h0 : 0 < d.length
  · exact h.heap (hb.block db (hs h0))
  · have hd : d = [] := List.eq_nil_of_length_eq_zero (by omega)
    subst hd
    obtain ⟨A, c, rfl, h1, h2, _⟩ := h
    exact ⟨A, c, rfl, h1, h2, fun h => absurd h (by simp)⟩

def PlainPost (f : Fo) (w : World) (r : Ending) (w' : World) : Prop := ∃ v, r = .returned v ∧ FV DataR w' (Mine w.heap.size w') v f ∧ Below w.heap.size w w'

set_option maxRecDepth 100000 in
set_option maxHeartbeats 4000000 in
theorem plain_any (f : Fo) : ∀ (w : World) (v : Value), FV DataI w (Lo w) v f → f.sz ≤ 1099511627776 → Calls Try.prog 10 #[v] w (PlainPost f w) := by
  refine Fo.byKids (P := fun f => ∀ (w : World) (v : Value), FV DataI w (Lo w) v f → f.sz ≤ 1099511627776 → Calls Try.prog 10 #[v] w (PlainPost f w)) ?_ f
  clear f
  intro f hkids w v hv hsz
  obtain ⟨A, c, rfl⟩ := hv.shape
  have hws := f.wt_le_sz
  have hlw := f.len_le_wt
  have hlen40 : f.len ≤ 1099511627776 := by omega
  have HK : Hid (Fo.kidsAll (fun f => ∀ (w : World) (v : Value), FV DataI w (Lo w) v f → f.sz ≤ 1099511627776 → Calls Try.prog 10 #[v] w (PlainPost f w)) f) := Lib.hid hkids
  clear hkids hws hlw
  go_enter Try.func10, Try.ntmps10
  go_wp2
  go_loopw [3, 4] (fun u i wr => ∃ (j : Nat), j ≤ f.len ∧ i = .int .i64 (j : Int) ∧ OwnF DataR 49 wr w.heap.size u (Fo.take j f) ∧ Below w.heap.size w wr) (fun _ i _ => f.len - (intOf i).toNat)
  case atStart => exact ⟨0, Nat.zero_le _, rfl, OwnF.nil _ _, Below.refl _ _⟩
  case round =>
    obtain ⟨j, hj, rfl, hown, hB⟩ := hrel
    by_cases hlt : j < f.len
    · obtain ⟨b, o, c', t, d, k, hve, hcap, hS, hdr, htk, ht64, hc0, ⟨dv, hc1, db, hdv, hdS⟩, ⟨kv, hc2, hkv⟩⟩ := hv.at hlt
      injection hve with e1 e2 e3
      subst e1 e3
      have hSb : b < w.heap.size := hS
      obtain ⟨D, cd, rfl⟩ : ∃ D cd, dv = .slice D d.length cd := by obtain ⟨D, cd, e, _⟩ := hdv; exact ⟨D, cd, e⟩
      have hdrop : (Fo.drop j f).sz ≤ f.sz := by
        have h := Fo.sz_app (Fo.take j f) (Fo.drop j f)
        rw [Fo.take_app_drop] at h
        omega
      rw [hdr] at hdrop
      simp only [Fo.sz] at hdrop
      have hIH : ∀ (w : World) (v : Value), FV DataI w (Lo w) v k → k.sz ≤ 1099511627776 → Calls Try.prog 10 #[v] w (PlainPost k w) := by
        have h := Fo.kidsAll_drop j HK.out
        rw [hdr] at h
        exact h.1
      have HTK := Lib.hid htk
      have hks40 : k.sz ≤ 1099511627776 := by omega
      have hBd := hB.drew
      have hC0 : wr.drew.cell? ⟨b, o + j * 3, none⟩ = some (.int .u64 (t : Int)) := (hBd.cell (p := ⟨b, o + j * 3, none⟩) hSb).trans hc0
      have hC1 : wr.drew.cell? ⟨b, o + j * 3 + 1, none⟩ = some (.slice D d.length cd) := (hBd.cell (p := ⟨b, o + j * 3 + 1, none⟩) hSb).trans hc1
      have hC2 : wr.drew.cell? ⟨b, o + j * 3 + 2, none⟩ = some kv := (hBd.cell (p := ⟨b, o + j * 3 + 2, none⟩) hSb).trans hc2
      have hRd : Rd wr.drew db (.slice D d.length cd) d := hdv.keepS hdS hBd
      have HDS : Hid (0 < d.length → db < w.heap.size) := Lib.hid hdS
      have hkv2 : FV DataI wr.drew (Lo wr.drew) kv k := hkv.kept stays_I (fun g hg => hBd.block g hg) (fun _ hg => Nat.lt_of_lt_of_le hg hBd.size)
      have HI := Lib.hid (hIH wr.drew kv hkv2 hks40)
      have hownd : OwnF DataR 49 wr.drew w.heap.size u3 (Fo.take j f) := hown.below stays_R (Below.refl _ _).drew
      have i1 : (0 : Int) ≤ (j : Int) := by omega
      have i2 : (j : Int) < (f.len : Int) := by omega
      have HT := Lib.hid ht64
      clear hIH hkv hkv2 hdr htk hc0 hc1 hc2 e2 hdv hdS hS hdrop hsz hown ht64
      go_wp2_with fail
      refine wp_region_noPanic ?_
      refine wp_region_held_drew (S := fun _ => True) (by kernel_rfl) trivial (fun hS => ?_)
      refine wpAnyH_take (i := 0) (oi := ?o1_0_1) (v := ?v1_0_1) ?i1_0_1 (by kernel_rfl) (by kernel_rfl) (by kernel_rfl) (fun _ _ _ h => h) (Or.inl ⟨?g1_0_1, ?y1_0_1⟩) hS ?_
      case i1_0_1 => simp only [List.getElem?_toArray, List.getElem?_cons_succ, List.getElem?_cons_zero]; rfl
      case g1_0_1 => rfl
      case y1_0_1 => (intro w hSw; (go_simp <;> with_reducible rfl))
      (try simp only [Act.put, List.setIfInBounds_toArray, List.set_cons_zero, List.set_cons_succ])
      refine wpAnyH_take (i := 1) (oi := ?o1_1_2) (v := ?v1_1_2) ?i1_1_2 (by kernel_rfl) (by kernel_rfl) (by kernel_rfl) (fun _ _ _ h => h) (Or.inl ⟨?g1_1_2, ?y1_1_2⟩) hS ?_
      case i1_1_2 => simp only [List.getElem?_toArray, List.getElem?_cons_succ, List.getElem?_cons_zero]; rfl
      case g1_1_2 => rfl
      case y1_1_2 => (intro w hSw; (go_simp <;> with_reducible rfl))
      (try simp only [Act.put, List.setIfInBounds_toArray, List.set_cons_zero, List.set_cons_succ])
      refine wpAnyH_take (i := 2) (oi := ?o1_2_3) (v := ?v1_2_3) ?i1_2_3 (by kernel_rfl) (by kernel_rfl) (by kernel_rfl) (fun _ _ _ h => h) (Or.inl ⟨?g1_2_3, ?y1_2_3⟩) hS ?_
      case i1_2_3 => simp only [List.getElem?_toArray, List.getElem?_cons_succ, List.getElem?_cons_zero]; rfl
      case g1_2_3 => rfl
      case y1_2_3 => (intro w hSw; (go_simp <;> with_reducible rfl))
      (try simp only [Act.put, List.setIfInBounds_toArray, List.set_cons_zero, List.set_cons_succ])
      refine wpAnyH_take (i := 3) (oi := ?o1_3_4) (v := ?v1_3_4) ?i1_3_4 (by kernel_rfl) (by kernel_rfl) (by kernel_rfl) (fun _ _ _ h => h) (Or.inl ⟨?g1_3_4, ?y1_3_4⟩) hS ?_
      case i1_3_4 => simp only [List.getElem?_toArray, List.getElem?_cons_succ, List.getElem?_cons_zero]; rfl
      case g1_3_4 => rfl
      case y1_3_4 => (intro w hSw; (go_simp <;> with_reducible rfl))
      (try simp only [Act.put, List.setIfInBounds_toArray, List.set_cons_zero, List.set_cons_succ])
      refine wpAnyH_take (i := 4) (oi := ?o1_4_5) (v := ?v1_4_5) ?i1_4_5 (by kernel_rfl) (by kernel_rfl) (by kernel_rfl) (fun _ _ _ h => h) (Or.inl ⟨?g1_4_5, ?y1_4_5⟩) hS ?_
      case i1_4_5 => simp only [List.getElem?_toArray, List.getElem?_cons_succ, List.getElem?_cons_zero]; rfl
      case g1_4_5 => rfl
      case y1_4_5 => (intro w hSw; (go_simp <;> with_reducible rfl))
      (try simp only [Act.put, List.setIfInBounds_toArray, List.set_cons_zero, List.set_cons_succ])
      refine held_more (S' := fun w' => w'.cell? ⟨b, o + j * 3, none⟩ = some (.int .u64 (t : Int)) ∧ w'.cell? ⟨b, o + j * 3 + 1, none⟩ = some (.slice D d.length cd) ∧ w'.cell? ⟨b, o + j * 3 + 2, none⟩ = some kv ∧ Rd w' db (.slice D d.length cd) d) (fun _ _ => trivial) _ _ _ _ ?_
      replace hS := And.intro hC0 (And.intro hC1 (And.intro hC2 hRd))
      refine wpAnyH_take (i := 5) (oi := ?o1_5_6) (v := ?v1_5_6) ?i1_5_6 (by kernel_rfl) (by kernel_rfl) (by kernel_rfl) (fun _ _ _ h => h) (Or.inl ⟨?g1_5_6, ?y1_5_6⟩) hS ?_
      case i1_5_6 => simp only [List.getElem?_toArray, List.getElem?_cons_succ, List.getElem?_cons_zero]; rfl
      case g1_5_6 => rfl
      case y1_5_6 => (intro w hSw; have hc := hSw.1; (go_simp <;> with_reducible rfl))
      (try simp only [Act.put, List.setIfInBounds_toArray, List.set_cons_zero, List.set_cons_succ])
      refine wpAnyH_take (i := 6) (oi := ?o1_6_7) (v := ?v1_6_7) ?i1_6_7 (by kernel_rfl) (by kernel_rfl) (by kernel_rfl) (fun _ _ _ h => h) (Or.inl ⟨?g1_6_7, ?y1_6_7⟩) hS ?_
      case i1_6_7 => simp only [List.getElem?_toArray, List.getElem?_cons_succ, List.getElem?_cons_zero]; rfl
      case g1_6_7 => rfl
      case y1_6_7 => (intro w hSw; (go_simp <;> with_reducible rfl))
      (try simp only [Act.put, List.setIfInBounds_toArray, List.set_cons_zero, List.set_cons_succ])
      refine wpAnyH_take (i := 7) (oi := ?o1_7_8) (v := ?v1_7_8) ?i1_7_8 (by kernel_rfl) (by kernel_rfl) (by kernel_rfl) (fun _ _ _ h => h) (Or.inl ⟨?g1_7_8, ?y1_7_8⟩) hS ?_
      case i1_7_8 => simp only [List.getElem?_toArray, List.getElem?_cons_succ, List.getElem?_cons_zero]; rfl
      case g1_7_8 => rfl
      case y1_7_8 => (intro w hSw; (go_simp <;> with_reducible rfl))
      (try simp only [Act.put, List.setIfInBounds_toArray, List.set_cons_zero, List.set_cons_succ])
      refine wpAnyH_take (i := 8) (oi := ?o1_8_9) (v := ?v1_8_9) ?i1_8_9 (by kernel_rfl) (by kernel_rfl) (by kernel_rfl) (fun _ _ _ h => h) (Or.inl ⟨?g1_8_9, ?y1_8_9⟩) hS ?_
      case i1_8_9 => simp only [List.getElem?_toArray, List.getElem?_cons_succ, List.getElem?_cons_zero]; rfl
      case g1_8_9 => rfl
      case y1_8_9 => (intro w hSw; (go_simp <;> with_reducible rfl))
      (try simp only [Act.put, List.setIfInBounds_toArray, List.set_cons_zero, List.set_cons_succ])
      refine wpAnyH_take (i := 9) (oi := ?o1_9_10) (v := ?v1_9_10) ?i1_9_10 (by kernel_rfl) (by kernel_rfl) (by kernel_rfl) (fun _ _ _ h => h) (Or.inl ⟨?g1_9_10, ?y1_9_10⟩) hS ?_
      case i1_9_10 => simp only [List.getElem?_toArray, List.getElem?_cons_succ, List.getElem?_cons_zero]; rfl
      case g1_9_10 => rfl
      case y1_9_10 => (intro w hSw; (go_simp <;> with_reducible rfl))
      (try simp only [Act.put, List.setIfInBounds_toArray, List.set_cons_zero, List.set_cons_succ])
      refine wpAnyH_take (i := 10) (oi := ?o1_10_11) (v := ?v1_10_11) ?i1_10_11 (by kernel_rfl) (by kernel_rfl) (by kernel_rfl) (fun _ _ _ h => h) (Or.inl ⟨?g1_10_11, ?y1_10_11⟩) hS ?_
      case i1_10_11 => simp only [List.getElem?_toArray, List.getElem?_cons_succ, List.getElem?_cons_zero]; rfl
      case g1_10_11 => rfl
      case y1_10_11 => (intro w hSw; have hc := hSw.2.1; (go_simp <;> with_reducible rfl))
      (try simp only [Act.put, List.setIfInBounds_toArray, List.set_cons_zero, List.set_cons_succ])
      refine wpAnyH_take (i := 11) (oi := ?o1_11_12) (v := ?v1_11_12) ?i1_11_12 (by kernel_rfl) (by kernel_rfl) (by kernel_rfl) (fun _ _ _ h => h) (Or.inl ⟨?g1_11_12, ?y1_11_12⟩) hS ?_
      case i1_11_12 => simp only [List.getElem?_toArray, List.getElem?_cons_succ, List.getElem?_cons_zero]; rfl
      case g1_11_12 => rfl
      case y1_11_12 => (intro w hSw; have hc : (convert 27 9 _).run Try.prog _ = .ok (.string (txt d)) _ := str_of hSw.2.2.2; (go_simp <;> with_reducible rfl))
      (try simp only [Act.put, List.setIfInBounds_toArray, List.set_cons_zero, List.set_cons_succ])
      refine wpAnyH_take (i := 12) (oi := ?o1_12_13) (v := ?v1_12_13) ?i1_12_13 (by kernel_rfl) (by kernel_rfl) (by kernel_rfl) (fun _ _ _ h => h) (Or.inl ⟨?g1_12_13, ?y1_12_13⟩) hS ?_
      case i1_12_13 => simp only [List.getElem?_toArray, List.getElem?_cons_succ, List.getElem?_cons_zero]; rfl
      case g1_12_13 => rfl
      case y1_12_13 => (intro w hSw; (go_simp <;> with_reducible rfl))
      (try simp only [Act.put, List.setIfInBounds_toArray, List.set_cons_zero, List.set_cons_succ])
      refine wpAnyH_take (i := 13) (oi := ?o1_13_14) (v := ?v1_13_14) ?i1_13_14 (by kernel_rfl) (by kernel_rfl) (by kernel_rfl) (fun _ _ _ h => h) (Or.inl ⟨?g1_13_14, ?y1_13_14⟩) hS ?_
      case i1_13_14 => simp only [List.getElem?_toArray, List.getElem?_cons_succ, List.getElem?_cons_zero]; rfl
      case g1_13_14 => rfl
      case y1_13_14 => (intro w hSw; (go_simp <;> with_reducible rfl))
      (try simp only [Act.put, List.setIfInBounds_toArray, List.set_cons_zero, List.set_cons_succ])
      refine wpAnyH_take (i := 14) (oi := ?o1_14_15) (v := ?v1_14_15) ?i1_14_15 (by kernel_rfl) (by kernel_rfl) (by kernel_rfl) (fun _ _ _ h => h) (Or.inl ⟨?g1_14_15, ?y1_14_15⟩) hS ?_
      case i1_14_15 => simp only [List.getElem?_toArray, List.getElem?_cons_succ, List.getElem?_cons_zero]; rfl
      case g1_14_15 => rfl
      case y1_14_15 => (intro w hSw; (go_simp <;> with_reducible rfl))
      (try simp only [Act.put, List.setIfInBounds_toArray, List.set_cons_zero, List.set_cons_succ])
      refine wpAnyH_take (i := 15) (oi := ?o1_15_16) (v := ?v1_15_16) ?i1_15_16 (by kernel_rfl) (by kernel_rfl) (by kernel_rfl) (fun _ _ _ h => h) (Or.inl ⟨?g1_15_16, ?y1_15_16⟩) hS ?_
      case i1_15_16 => simp only [List.getElem?_toArray, List.getElem?_cons_succ, List.getElem?_cons_zero]; rfl
      case g1_15_16 => rfl
      case y1_15_16 => (intro w hSw; (go_simp <;> with_reducible rfl))
      (try simp only [Act.put, List.setIfInBounds_toArray, List.set_cons_zero, List.set_cons_succ])
      refine wpAnyH_take (i := 16) (oi := ?o1_16_17) (v := ?v1_16_17) ?i1_16_17 (by kernel_rfl) (by kernel_rfl) (by kernel_rfl) (fun _ _ _ h => h) (Or.inl ⟨?g1_16_17, ?y1_16_17⟩) hS ?_
      case i1_16_17 => simp only [List.getElem?_toArray, List.getElem?_cons_succ, List.getElem?_cons_zero]; rfl
      case g1_16_17 => rfl
      case y1_16_17 => (intro w hSw; have hc := hSw.2.2.1; (go_simp <;> with_reducible rfl))
      (try simp only [Act.put, List.setIfInBounds_toArray, List.set_cons_zero, List.set_cons_succ])
      refine wpAnyH_ready (rs := [17]) (by kernel_rfl) (by simp) ?_
      refine (AllReadyH.cons (o := ?o1_18_17) ?i1_18_17 (fun K hK => ?st1_18_17) AllReadyH.nil)
      case i1_18_17 => simp only [List.getElem?_toArray, List.getElem?_cons_succ, List.getElem?_cons_zero]; rfl
      rw [if_pos (by rfl)]
      go_simp
      refine HI.out.mono ?_
      rintro r w6 ⟨kr, rfl, hkr, hb6⟩
      obtain ⟨A6, c6, rfl⟩ := hkr.shape
      go_wp2_with fail
      refine hK.out _ _ ?s1_18_17 (fun hS => ?_)
      case s1_18_17 => (exact ⟨(hb6.cell (p := ⟨b, o + j * 3, none⟩) (Nat.lt_of_lt_of_le hSb hBd.size)).trans hS.1, (hb6.cell (p := ⟨b, o + j * 3 + 1, none⟩) (Nat.lt_of_lt_of_le hSb hBd.size)).trans hS.2.1, (hb6.cell (p := ⟨b, o + j * 3 + 2, none⟩) (Nat.lt_of_lt_of_le hSb hBd.size)).trans hS.2.2.1, hS.2.2.2.below' hb6⟩)
      clear hK K
      (try simp only [Act.put, List.setIfInBounds_toArray, List.set_cons_zero, List.set_cons_succ])
      refine wpAnyH_take (i := 18) (oi := ?o1_18_19) (v := ?v1_18_19) ?i1_18_19 (by kernel_rfl) (by kernel_rfl) (by kernel_rfl) (fun _ _ _ h => h) (Or.inl ⟨?g1_18_19, ?y1_18_19⟩) hS ?_
      case i1_18_19 => simp only [List.getElem?_toArray, List.getElem?_cons_succ, List.getElem?_cons_zero]; rfl
      case g1_18_19 => rfl
      case y1_18_19 => (intro w hSw; (go_simp <;> with_reducible rfl))
      (try simp only [Act.put, List.setIfInBounds_toArray, List.set_cons_zero, List.set_cons_succ])
      refine wpAnyH_ready (rs := [19]) (by kernel_rfl) (by simp) ?_
      refine (AllReadyH.cons (o := ?o1_20_19) ?i1_20_19 (fun K hK => ?st1_20_19) AllReadyH.nil)
      case i1_20_19 => simp only [List.getElem?_toArray, List.getElem?_cons_succ, List.getElem?_cons_zero]; rfl
      rw [if_pos (by rfl)]
      go_simp
      refine hK.out _ _ ?s1_20_19 (fun hS => ?_)
      case s1_20_19 => (exact ⟨(((Below.refl w6.heap.size w6).alloc (Nat.le_refl _) _).cell (p := ⟨b, o + j * 3, none⟩) (by have := hb6.size; have := hBd.size; show b < _; omega)).trans hS.1, (((Below.refl w6.heap.size w6).alloc (Nat.le_refl _) _).cell (p := ⟨b, o + j * 3 + 1, none⟩) (by have := hb6.size; have := hBd.size; show b < _; omega)).trans hS.2.1, (((Below.refl w6.heap.size w6).alloc (Nat.le_refl _) _).cell (p := ⟨b, o + j * 3 + 2, none⟩) (by have := hb6.size; have := hBd.size; show b < _; omega)).trans hS.2.2.1, hS.2.2.2.below' ((Below.refl _ _).alloc (Nat.le_refl _) _)⟩)
      clear hK K
      (try simp only [Act.put, List.setIfInBounds_toArray, List.set_cons_zero, List.set_cons_succ])
      have hbA : Below w6.heap.size w6 (w6.alloc (.cells #[.int .u64 (t : Int), .string (txt d), .slice A6 k.len c6] 49)) := (Below.refl _ _).alloc (Nat.le_refl _) _
      have hownA : OwnF DataR 49 (w6.alloc (.cells #[.int .u64 (t : Int), .string (txt d), .slice A6 k.len c6] 49)) w.heap.size u3 (Fo.take j f) := (hownd.below stays_R hb6).below stays_R hbA
      have z1 := hBd.size
      have z2 := hb6.size
      have hkA : FV DataR (w6.alloc (.cells #[.int .u64 (t : Int), .string (txt d), .slice A6 k.len c6] 49)) (Its w.heap.size (w6.alloc (.cells #[.int .u64 (t : Int), .string (txt d), .slice A6 k.len c6] 49)) u3) (.slice A6 k.len c6) k := hkr.kept stays_R (fun g hg => hbA.block g hg.2) (fun g hg => ⟨Nat.le_trans z1 hg.1, by have := hg.2; simp only [World.size_alloc]; omega, fun h => by have := (hownd.lt g h.symm).2; have := hg.1; omega⟩)
      refine wpAnyH_ready (rs := [20]) (by kernel_rfl) (by simp) ?_
      refine (AllReadyH.cons (o := ?o1_21_20) ?i1_21_20 (fun K hK => ?st1_21_20) AllReadyH.nil)
      case i1_21_20 => simp only [List.getElem?_toArray, List.getElem?_cons_succ, List.getElem?_cons_zero]; rfl
      rw [if_pos (by rfl)]
      refine wp_append_it stays_R one_R Try.underlying25 Try.infoI zeroI (.tmp 11) (.tmp 30) (by rfl) (by rfl) w.heap.size _ (Fo.take j f) (by rfl) hownA w6.heap.size (by rfl) t d k (.string (txt d)) (.slice A6 k.len c6) (Blk.new w6 _ _) HT.out rfl hkA ?_ ?_ ?_ ?_
      · rw [Fo.len_take j f hj]; omega
      · rw [Fo.len_take j f hj]; omega
      · simp only [World.size_alloc]; omega
      intro v20 w20 hap
      have hb20 := hap.below hownA (by simp only [World.size_alloc]; omega)
      refine hK.out _ _ ?s1_21_20 (fun hS => ?_)
      case s1_21_20 => (exact ⟨(hb20.cell (p := ⟨b, o + j * 3, none⟩) hSb).trans hS.1, (hb20.cell (p := ⟨b, o + j * 3 + 1, none⟩) hSb).trans hS.2.1, (hb20.cell (p := ⟨b, o + j * 3 + 2, none⟩) hSb).trans hS.2.2.1, hS.2.2.2.keepS HDS.out hb20⟩)
      clear hK K
      (try simp only [Act.put, List.setIfInBounds_toArray, List.set_cons_zero, List.set_cons_succ])
      refine wpAnyH_take (i := 21) (oi := ?o1_21_22) (v := ?v1_21_22) ?i1_21_22 (by kernel_rfl) (by kernel_rfl) (by kernel_rfl) (fun _ _ _ h => h) (Or.inl ⟨?g1_21_22, ?y1_21_22⟩) hS ?_
      case i1_21_22 => simp only [List.getElem?_toArray, List.getElem?_cons_succ, List.getElem?_cons_zero]; rfl
      case g1_21_22 => rfl
      case y1_21_22 => (intro w hSw; (go_simp <;> with_reducible rfl))
      (try simp only [Act.put, List.setIfInBounds_toArray, List.set_cons_zero, List.set_cons_succ])
      refine wpAnyH_done (by kernel_rfl) ?_ _
      refine NoPanic.normal ?_
      have hown20 : OwnF DataR 49 w20 w.heap.size v20 (Fo.take (j + 1) f) := by rw [HTK.out]; exact hap.1
      have hB20 := (hBd.trans ((hb6.trans (hbA.mono z2)).mono z1)).trans hb20
      clear hap hb20 hownA hkA hbA hb6 hownd hkr hBd hS hC0 hC1 hC2 hRd
      go_wp2
      go_roundw
      case rel => exact ⟨j + 1, by omega, by go_num, hown20, hB20⟩
      case measure => simp [intOf]; omega
    · obtain rfl : j = f.len := by omega
      rw [Fo.take_all] at hown
      have hfv := hown.fv stays_R
      obtain ⟨A3, c3, rfl⟩ := hfv.shape
      have HF := Lib.hid hfv
      clear hfv hown hlt
      go_wp2
      go_ret
      exact ⟨_, rfl, HF.out, hB⟩

end Go.Proofs.Ytdpaijechogmlaa
