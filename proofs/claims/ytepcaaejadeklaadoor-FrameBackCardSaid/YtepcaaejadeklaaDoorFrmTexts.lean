/-
  Rows of bytes in memory, and their texts (package tollbarlaw04). No condition but those of each theorem.
-/
import Derived.Test.YtepcaaejadeklaaDoorFrmSame
import Derived.Test.YtepcaaejadeklaaDoorOctG
namespace Go.Proofs.YtepcaaejadeklaaDoor
open Go.RowKit
set_option linter.unusedSimpArgs false

/-- The slice v holds slices that read as the rows ls. -/
def RowB (w : World) (d : Nat) (v : Value) (ls : List (List UInt8)) : Prop :=
  ∃ xs, Vals w d v xs ∧ xs.length = ls.length ∧ ∀ (j : Nat) (l : List UInt8), ls[j]? = some l → ∃ u db, xs[j]? = some u ∧ Rd w db u l
section
variable {w w' : World} {d : Nat} {v : Value} {ls : List (List UInt8)}
theorem RowB.nil (w : World) (d : Nat) : RowB w d (.slice none 0 0) [] := ⟨[], Vals.nil w d, rfl, fun j l h => by simp at h⟩
theorem RowB.below (h : RowB w d v ls) (hb : Below w.heap.size w w') : RowB w' d v ls := by
  obtain ⟨xs, h1, h2, h3⟩ := h
  refine ⟨xs, h1.below' hb, h2, fun j l hj => ?_⟩
  obtain ⟨u, db, g1, g2⟩ := h3 j l hj
  exact ⟨u, db, g1, g2.below' hb⟩
theorem RowB.shape (h : RowB w d v ls) : ∃ A c, v = .slice A ls.length c := by
  obtain ⟨xs, ⟨A, c, h1, _⟩, h2, _⟩ := h
  exact ⟨A, c, by rw [h1, h2]⟩
theorem RowB.at {A : Option Addr} {n c : Nat} (h : RowB w d (.slice A n c) ls) {j : Nat} {l : List UInt8} (hj : ls[j]? = some l) :
    ∃ off u db, A = some ⟨d, off, none⟩ ∧ w.cell? ⟨d, off + j, none⟩ = some u ∧ Rd w db u l := by
  obtain ⟨xs, h1, h2, h3⟩ := h
  obtain ⟨u, db, g1, g2⟩ := h3 j l hj
  obtain ⟨off, e, -, -, -, hc⟩ := h1.at g1
  exact ⟨off, u, db, e, hc, g2⟩
theorem RowB.take {A : Option Addr} {n c k : Nat} (h : RowB w d (.slice A n c) ls) (hk : k ≤ n) : RowB w d (.slice A k c) (ls.take k) := by
  obtain ⟨xs, ⟨A', c', he, h1, h2⟩, hl, h3⟩ := h
  injection he with e1 e2 e3
  subst e1 e2 e3
  have hlt : (xs.take k).length = k := by rw [List.length_take]; omega
  refine ⟨xs.take k, ⟨A, c, by rw [hlt], by omega, fun hp => ?_⟩, by rw [hlt, List.length_take]; omega, fun j l hj => ?_⟩
  · obtain ⟨hd, off, e, hc⟩ := h2 (by omega)
    refine ⟨hd, off, e, fun j u hj => hc j u ?_⟩
    rw [List.getElem?_take] at hj
    split at hj
    · exact hj
    · exact absurd hj (by simp)
  · rw [List.getElem?_take] at hj
    split at hj
    · rename_i hjk
      obtain ⟨u, db, g1, g2⟩ := h3 j l hj
      exact ⟨u, db, by rw [List.getElem?_take_of_lt hjk]; exact g1, g2⟩
    · exact absurd hj (by simp)
end

def TextsP (ls : List (List UInt8)) (w : World) (r : Ending) (w' : World) : Prop := ∃ v d, r = .returned v ∧ Vals w' d v (txts ls) ∧ Below w.heap.size w w'

set_option maxRecDepth 100000 in
set_option maxHeartbeats 1000000 in
theorem texts_any (ls : List (List UInt8)) (w : World) (va : Value) (da : Nat) (hva : RowB w da va ls) (hl : ls.length ≤ 1099511627776) :
    Calls Tryd.prog 19 #[va] w (TextsP ls w) := by
  obtain ⟨A, c, rfl⟩ := hva.shape
  go_enter Tryd.func19, Tryd.ntmps19
  go_wp2
  go_loopw [3, 4] (fun u i wr => ∃ (j : Nat), j ≤ ls.length ∧ i = .int .i64 (j : Int) ∧ OwnV 9 wr w.heap.size u (txts (ls.take j)) ∧ Below w.heap.size w wr) (fun _ i _ => ls.length - (intOf i).toNat)
  case atStart => exact ⟨0, Nat.zero_le _, rfl, OwnV.nil _ _, Below.refl _ _⟩
  case round =>
    obtain ⟨j, hj, rfl, hown, hB⟩ := hrel
    by_cases hlt : j < ls.length
    · obtain ⟨x, hx⟩ : ∃ x, ls[j]? = some x := ⟨_, List.getElem?_eq_getElem hlt⟩
      have hv2 := hva.below hB
      obtain ⟨o, u, db, rfl, hc0, hr⟩ := hv2.at hx
      have hst := str_of hr
      have i1 : (0 : Int) ≤ (j : Int) := by omega
      have i2 : (j : Int) < (ls.length : Int) := by omega
      have hpl : (txts (ls.take j)).length = j := by rw [txts_length, List.length_take]; omega
      have hsn : txts (ls.take j) ++ [.string (txt x)] = txts (ls.take (j + 1)) := by rw [txts_snoc, List.take_add_one, hx]; rfl
      have hA2 : Below wr.heap.size wr (wr.alloc (.cells #[.string (txt x)] 9)) := (Below.refl _ _).alloc (Nat.le_refl _) _
      have hB2 := hB.trans (hA2.mono hB.size)
      have HOWN := Lib.hid (hown.below hA2)
      have HB2 := Lib.hid hB2
      have HBLK := Lib.hid (Blk.new wr 9 #[.string (txt x)])
      have HSN := Lib.hid hsn
      clear hA2 hB hown hB2 hv2 hx hr hsn
      go_wp2_with (at_builtin; refine wpList_append_v Tryd.underlying40 Tryd.infoS zeroS rfl (.tmp 11) (.tmp 17) rfl rfl w.heap.size _ (txts (ls.take j)) rfl HOWN.out wr.heap.size rfl (.string (txt x)) HBLK.out rfl ?h1 ?h2 ?h3 ?_)
      case h1 => omega
      case h2 => omega
      case h3 => exact HB2.out.size
      intro v' w' hap
      have hb' := hap.below HOWN.out HB2.out.size
      have hown' := hap.1
      have hB' := HB2.out.trans hb'
      rw [HSN.out] at hown'
      clear hap hb' hst hc0
      go_wp2
      go_roundw
      case rel => exact ⟨j + 1, by omega, by go_num, hown', hB'⟩
      case measure => simp [intOf]; omega
    · obtain rfl : j = ls.length := by omega
      rw [List.take_length] at hown
      obtain ⟨d, hv, -⟩ := hown.vals
      have HP := Lib.hid hv
      have HB := Lib.hid hB
      clear hv hown hB
      go_wp2
      go_ret
      exact ⟨_, d, rfl, HP.out, HB.out⟩

end Go.Proofs.YtepcaaejadeklaaDoor
