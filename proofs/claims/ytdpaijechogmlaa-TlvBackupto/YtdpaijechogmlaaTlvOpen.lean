/-
  A slice of the program's items that came in, read as items; how many values it holds. No program walked, no condition but those of each theorem.
-/
import Derived.Test.YtdpaijechogmlaaTlvMem
import Derived.Deep.Slices
import Derived.Deep.Fields
import Derived.ChangeSame
namespace Go.Proofs.Ytdpaijechogmlaa
open Go.RowKit Go.ChangeShapes Go.WideShapes Go.Deep

/-- What a reading holds: as the second form counts. -/
theorem bulk_one {H : Type} (d : DataW H) : 1 ≤ Rows.uptoBulk d := by
  cases d with
  | lit l => cases l <;> simp [Rows.uptoBulk]
  | nil => simp [Rows.uptoBulk]
  | ptr d => simp [Rows.uptoBulk]
  | slice elems spare => simp [Rows.uptoBulk]
  | agg parts => simp [Rows.uptoBulk]
  | iface t d => simp [Rows.uptoBulk]
  | map entries => simp [Rows.uptoBulk]
  | held h => simp [Rows.uptoBulk]
theorem bulk_len {H : Type} (l : List (DataW H)) : l.length ≤ Rows.uptoBulkAll l := by
  induction l with
  | nil => simp [Rows.uptoBulkAll]
  | cons x r ih => have := bulk_one x; simp only [Rows.uptoBulkAll, List.length_cons]; omega

section
variable {H : Type} {enc : TypeId × Value → H} {P : Program} {w : World} {base : Nat} {spare : Nat → Bool} {held : Bool}

/-- A slice of bytes that came in. -/
theorem open_bytes {tb te : TypeId} (htb : P.underlying tb = some (.slice te)) (hte : P.underlying te = some (.int .u8)) (hce : P.cellsOf te = 1) {fuel : Nat} {v : Value} {x : DataW H × List MemPlace}
    (h : DataW.trod enc P w base spare held fuel tb [v] = some x) (hB : Rows.uptoBulk x.1 ≤ 140737488355328) : ∃ d, DataI w (fun g => g < w.heap.size) v d ∧ d.length ≤ Rows.uptoBulk x.1 := by
  rcases open_ints htb hte hce h with ⟨hcs, rfl⟩ | ⟨a, len, c, zs, hcs, _, hl, hm, hz, rfl, hcell, hwz⟩
  · simp at hcs
    subst hcs
    exact ⟨[], ⟨0, Rd.nil _ _, fun h => absurd h (by simp)⟩, Nat.zero_le _⟩
  · simp at hcs
    subst hcs
    have hzl : len ≤ zs.length := by rw [hz]; split <;> omega
    have hbl : len + 1 ≤ Rows.uptoBulk (DataW.slice (lits (H := H) .u8 (zs.take len)) (lits .u8 (zs.drop len))) := by
      simp only [Rows.uptoBulk]
      have h1 := bulk_len (H := H) (lits .u8 (zs.take len))
      have h2 : (lits (H := H) .u8 (zs.take len)).length = len := by simp [lits]; omega
      omega
    have hle : len ≤ 140737488355328 := by
      have hB' : Rows.uptoBulk (DataW.slice (lits (H := H) .u8 (zs.take len)) (lits .u8 (zs.drop len))) ≤ 140737488355328 := hB
      omega
    have hblk : ∃ d l, l.length = len ∧ Rd w d (.slice (some a) len c) l := by
      have hlen : ((zs.take len).map fun n => UInt8.ofNat n.toNat).length = len := by simp; omega
      by_cases h0 : 0 < len
      · have hx : a.spot = none := World.cell?_spot (by have := hcell 0 (by omega); simpa [Addr.add] using this)
        obtain ⟨b, off, sp⟩ := a
        have hsp : sp = none := hx
        subst hsp
        refine ⟨b, (zs.take len).map fun n => UInt8.ofNat n.toNat, hlen, _, c, by rw [hlen], by omega, by omega, fun _ => ⟨off, rfl, fun j y hj => ?_⟩⟩
        have hjl : j < len := by have := (List.getElem?_eq_some_iff.1 hj).1; omega
        have hc := hcell j (by omega)
        have e : (⟨b, off, none⟩ : Addr).add j = ⟨b, off + j, none⟩ := by unfold Addr.add; split <;> simp_all
        rw [e] at hc
        rw [hc]
        have hjz : j < zs.length := by omega
        have hy : y = UInt8.ofNat (zs[j]).toNat := by
          rw [List.getElem?_map, List.getElem?_take_of_lt hjl, List.getElem?_eq_getElem hjz] at hj
          simpa using hj.symm
        obtain ⟨b0, b1⟩ := bounds_u8 (hwz zs[j] (List.getElem_mem hjz))
        rw [hy]
        unfold byteV
        rw [ofNat_toNat]
        have hg : zs.getD j 0 = zs[j] := by simp [List.getD, List.getElem?_eq_getElem hjz]
        rw [hg]
        congr 2
        omega
      · have : len = 0 := by omega
        subst this
        exact ⟨0, [], rfl, _, c, rfl, Nat.zero_le _, by simp, fun hp => absurd hp (by simp)⟩
    obtain ⟨d, l, hll, hr⟩ := hblk
    exact ⟨l, ⟨d, hr, fun h0 => hr.lt h0⟩, by rw [hll]; exact Nat.le_of_succ_le hbl⟩

theorem bulk_two {H : Type} (l r : List (DataW H)) : Rows.uptoBulkAll (l ++ r) = Rows.uptoBulkAll l + Rows.uptoBulkAll r := by
  induction l with
  | nil => simp [Rows.uptoBulkAll]
  | cons x l ih => simp only [List.cons_append, Rows.uptoBulkAll, ih]; omega

/-- A slice of items that came in. -/
theorem open_items {ti t0 tt tb te : TypeId} {f0 f1 f2 : Field} (hti : P.underlying ti = some (.slice t0)) (ht0 : P.underlying t0 = some (.struct #[f0, f1, f2])) (hone : oneCellFields P #[f0, f1, f2] = true) (hC : P.cellsOf t0 = 3)
    (e0 : f0.type = tt) (e1 : f1.type = tb) (e2 : f2.type = ti) (htt : P.underlying tt = some (.int .u64)) (htb : P.underlying tb = some (.slice te)) (hte : P.underlying te = some (.int .u8)) (hce : P.cellsOf te = 1) (N : Nat) :
    ∀ {fuel : Nat} {v : Value} {x : DataW H × List MemPlace}, fuel ≤ N → DataW.trod enc P w base spare held fuel ti [v] = some x → Rows.uptoBulk x.1 ≤ 140737488355328 → ∃ f, FV DataI w (fun g => g < w.heap.size) v f ∧ f.sz ≤ Rows.uptoBulk x.1 := by
  induction N with
  | zero =>
    intro fuel v x hN h
    obtain rfl : fuel = 0 := by omega
    simp [DataW.trod] at h
  | succ N ih =>
    intro fuel v x hN h hB
    rcases DataW.trod_slice hti h with ⟨hcs, rfl⟩ | ⟨a, len, cap, elems, rest, n, rfl, hcs, rfl, hb, hl, hm, hlen, hel, -, -⟩
    · simp at hcs
      subst hcs
      exact ⟨.nil, FV.nil _ _, Nat.zero_le _⟩
    · simp at hcs
      subst hcs
      have hB1 : Rows.uptoBulkAll (elems.map (·.1)) + Rows.uptoBulkAll (rest.map (·.1)) + 1 ≤ 140737488355328 := by simpa only [Rows.uptoBulk] using hB
      by_cases h0 : 0 < len
      · have hcell0 : ∃ u, w.cell? a = some u := by
          have h1 := hel 0 h0
          rw [List.getElem?_eq_getElem (by omega)] at h1
          obtain ⟨cs', h2, _⟩ := Option.bind_eq_some_iff.1 h1
          rw [hC] at h2
          obtain ⟨_, h3, h4⟩ := World.cells?_some h2
          have h5 := h4 0 (by omega)
          rw [List.getElem?_eq_getElem (by omega)] at h5
          exact ⟨_, by simpa [Addr.add] using h5⟩
        obtain ⟨u0, hu0⟩ := hcell0
        have hsp0 : a.spot = none := World.cell?_spot hu0
        have hlt : a.block < w.heap.size := World.block_lt_of_cell? w _ hu0
        obtain ⟨b, off, sp⟩ := a
        have hsp : sp = none := hsp0
        subst hsp
        have hadd : ∀ i, (⟨b, off, none⟩ : Addr).add i = ⟨b, off + i, none⟩ := fun i => by unfold Addr.add; split <;> simp_all
        have rows : ∀ m, m ≤ len → ∃ f : Fo, f.len = m ∧ FAt DataI w (fun g => g < w.heap.size) f b (off + (len - m) * 3) ∧ f.sz ≤ Rows.uptoBulkAll ((elems.drop (len - m)).map (·.1)) := by
          intro m
          induction m with
          | zero => intro _; exact ⟨.nil, rfl, trivial, Nat.zero_le _⟩
          | succ m ihm =>
            intro hm'
            obtain ⟨r, hr1, hr2, hr3⟩ := ihm (by omega)
            obtain ⟨i, hi⟩ : ∃ i, i = len - (m + 1) := ⟨_, rfl⟩
            have hi1 : len - m = i + 1 := by omega
            have hil : i < len := by omega
            rw [hi1] at hr2 hr3
            rw [← hi]
            have h1 := hel i hil
            have hie : i < elems.length := by omega
            rw [List.getElem?_eq_getElem hie] at h1
            obtain ⟨cs', h2, h3⟩ := Option.bind_eq_some_iff.1 h1
            rw [hC] at h2
            obtain ⟨_, hcl, hat⟩ := World.cells?_some h2
            obtain ⟨ys, n', hn', hy, -, hyl, hf⟩ := DataW.trod_struct ht0 h3
            have hyl' : ys.length = 3 := hyl
            have hcc : ∀ j, j < 3 → w.cell? ⟨b, off + i * 3 + j, none⟩ = cs'[j]? := fun j hj => by
              have h5 := hat j hj
              rw [hadd] at h5
              have h6 : (⟨b, off + i * 3, none⟩ : Addr).add j = ⟨b, off + i * 3 + j, none⟩ := by unfold Addr.add; split <;> simp_all
              rw [h6] at h5
              exact h5
            match cs', hcl, ys, hyl', hy with
            | [c0, c1, c2], _, [y0, y1, y2], _, hy =>
              obtain ⟨o0, k0⟩ := hone_of hone 0 f0 rfl
              obtain ⟨o1, k1⟩ := hone_of hone 1 f1 rfl
              obtain ⟨o2, k2⟩ := hone_of hone 2 f2 rfl
              have g0 := hf 0 f0 rfl
              have g1 := hf 1 f1 rfl
              have g2 := hf 2 f2 rfl
              rw [o0, k0, e0] at g0
              rw [o1, k1, e1] at g1
              rw [o2, k2, e2] at g2
              have g0' : DataW.trod enc P w base spare held n' tt [c0] = some y0 := g0
              have g1' : DataW.trod enc P w base spare held n' tb [c1] = some y1 := g1
              have g2' : DataW.trod enc P w base spare held n' ti [c2] = some y2 := g2
              have hy1 : (elems[i]).1 = .agg [y0.1, y1.1, y2.1] := congrArg Prod.fst hy
              have hdrop : (elems.drop i).map (·.1) = (elems[i]).1 :: (elems.drop (i + 1)).map (·.1) := by rw [List.drop_eq_getElem_cons hie]; rfl
              have hbulk : Rows.uptoBulkAll ((elems.drop i).map (·.1)) = Rows.uptoBulk y0.1 + (Rows.uptoBulk y1.1 + (Rows.uptoBulk y2.1 + 0)) + 1 + Rows.uptoBulkAll ((elems.drop (i + 1)).map (·.1)) := by
                rw [hdrop, hy1]; simp only [Rows.uptoBulkAll, Rows.uptoBulk]
              have hpart : Rows.uptoBulkAll ((elems.drop i).map (·.1)) ≤ Rows.uptoBulkAll (elems.map (·.1)) := by
                have h7 : elems.map (·.1) = (elems.take i).map (·.1) ++ (elems.drop i).map (·.1) := by rw [← List.map_append, List.take_append_drop]
                rw [h7, bulk_two]; omega
              obtain ⟨tag, ht1, ht2, ht3⟩ := DataW.trod_int htt g0'
              obtain ⟨d, hd1, hd2⟩ := open_bytes htb hte hce g1' (by omega)
              obtain ⟨k, hk1, hk2⟩ := ih (by omega) g2' (by omega)
              have htb64 := bounds_u64 ht3
              simp at ht1
              subst ht1
              refine ⟨.cons tag.toNat d k r, by simp only [Fo.len, hr1], ⟨?_, by omega, ⟨c1, hcc 1 (by omega), hd1⟩, ?_, ?_⟩, ?_⟩
              · have h8 := hcc 0 (by omega)
                rw [Nat.add_zero] at h8
                rw [h8]
                show some (Value.int .u64 tag) = some (Value.int .u64 (tag.toNat : Int))
                rw [Int.toNat_of_nonneg (by omega)]
              · obtain ⟨A, c, hv, hl2, hrow⟩ := hk1
                have h8 := hcc 2 (by omega)
                refine ⟨A, c, ?_, hl2, hrow⟩
                rw [h8, ← hv]; rfl
              · have h9 : off + i * 3 + 3 = off + (i + 1) * 3 := by omega
                rw [h9]; exact hr2
              · simp only [Fo.sz]
                omega
        obtain ⟨f, hf1, hf2, hf3⟩ := rows len (Nat.le_refl _)
        rw [Nat.sub_self, Nat.zero_mul, Nat.add_zero] at hf2
        rw [Nat.sub_self, List.drop_zero] at hf3
        refine ⟨f, ⟨_, cap, by rw [hf1], by omega, fun _ => ⟨b, off, rfl, hlt, hf2⟩⟩, ?_⟩
        simp only [Rows.uptoBulk]
        omega
      · obtain rfl : len = 0 := by omega
        exact ⟨.nil, ⟨_, cap, rfl, Nat.zero_le _, fun h => absurd h (by simp [Fo.len])⟩, Nat.zero_le _⟩
end

end Go.Proofs.Ytdpaijechogmlaa
