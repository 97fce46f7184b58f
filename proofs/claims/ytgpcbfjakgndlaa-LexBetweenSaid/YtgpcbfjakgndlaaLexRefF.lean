/-
  What the document's Same of rows of tokens (package tollbarref05) answers. No condition but those of each theorem.
-/
import Derived.Test.YtgpcbfjakgndlaaLexRefC
namespace Go.Proofs.Ytgpcbfjakgndlaa
open Go.RowKit
set_option linter.unusedSimpArgs false

def SameK (a b : List Tok) (w : World) (r : Ending) (w' : World) : Prop := (∃ q, r = .returned (.bool q) ∧ (q = true ↔ a = b)) ∧ Below w.heap.size w w'
theorem tok_ext {x y : Tok} (h1 : x.k = y.k) (h2 : x.t = y.t) (h3 : x.p.1 = y.p.1) (h4 : x.p.2 = y.p.2) : x = y := by
  obtain ⟨k, t, p⟩ := x
  obtain ⟨k', t', p'⟩ := y
  simp only at h1 h2 h3 h4
  rw [h1, h2, Prod.ext h3 h4]
theorem toks_not {a b : List Tok} {j : Nat} {x y : Tok} (hx : a[j]? = some x) (hy : b[j]? = some y) (h : x ≠ y) : a ≠ b := fun e => by rw [e, hy] at hx; injection hx with hx; exact h hx.symm
theorem toks_step {a b : List Tok} {j : Nat} {x y : Tok} (hx : a[j]? = some x) (hy : b[j]? = some y) (h : x = y) (ht : a.take j = b.take j) : a.take (j + 1) = b.take (j + 1) := by
  rw [List.take_add_one, List.take_add_one, hx, hy, h, ht]

set_option maxRecDepth 100000 in
set_option maxHeartbeats 1000000 in
theorem rsame5_any (a b : List Tok) (w : World) (va vb : Value) (da db : Nat) (hva : Toks w da va a) (hvb : Toks w db vb b) (hl : a.length ≤ 1099511627776) :
    Calls Try.prog 11 #[va, vb] w (SameK a b w) := by
  obtain ⟨A, c, rfl⟩ := RowK.shape hva
  obtain ⟨A', c', rfl⟩ := RowK.shape hvb
  by_cases hll : a.length = b.length
  · have hlb : ((a.length : Int) == (b.length : Int)) = true := by rw [hll]; simp
    have hlb2 : ((a.length : Int) != (b.length : Int)) = false := by rw [hll]; simp
    have hle : a.length ≤ b.length := by omega
    have hge : b.length ≤ a.length := by omega
    clear hll
    go_enter Try.func11, Try.ntmps11
    go_wp2
    go_loopw [5] (fun i wr => ∃ (j : Nat), j ≤ a.length ∧ i = .int .i64 (j : Int) ∧ Hid (a.take j = b.take j) ∧ Below w.heap.size w wr) (fun i _ => a.length - (intOf i).toNat)
    case atStart => exact ⟨0, Nat.zero_le _, rfl, Lib.hid rfl, Below.refl _ _⟩
    case round =>
      obtain ⟨j, hj, rfl, HT, hB⟩ := hrel
      by_cases hlt : j < a.length
      · obtain ⟨x, hx⟩ : ∃ x, a[j]? = some x := ⟨_, List.getElem?_eq_getElem hlt⟩
        obtain ⟨y, hy⟩ : ∃ y, b[j]? = some y := ⟨_, List.getElem?_eq_getElem (by omega)⟩
        obtain ⟨-, -, o, rfl, hSa, c0, c1, c2, c3⟩ := Toks.at (RowK.below hva hB.drew) hx
        obtain ⟨-, -, o', rfl, hSb, e0, e1, e2, e3⟩ := Toks.at (RowK.below hvb hB.drew) hy
        have hBd := hB.drew
        have i1 : (0 : Int) ≤ (j : Int) := by omega
        have i2 : (j : Int) < (a.length : Int) := by omega
        have i3 : (j : Int) < (b.length : Int) := by omega
        have HX := Lib.hid hx
        have HY := Lib.hid hy
        clear hx hy hB
        have hnot : ∀ (h : x ≠ y), Hid (a ≠ b) := fun h => Lib.hid (toks_not HX.out HY.out h)
        by_cases g0 : (x.k : Int) = (y.k : Int)
        · by_cases g1 : (txt x.t).toList = (txt y.t).toList
          · by_cases g2 : (x.p.1 : Int) = (y.p.1 : Int)
            · by_cases g3 : (x.p.2 : Int) = (y.p.2 : Int)
              · have hxy : x = y := tok_ext (by omega) (by rw [txt_toList, txt_toList] at g1; exact g1) (by omega) (by omega)
                have HZ := Lib.hid (toks_step HX.out HY.out hxy HT.out)
                clear hnot hxy
                go_wp2_with fail
                go_region
                all_goals go_wp2
                all_goals exact ⟨⟨j + 1, by omega, by go_num, HZ, hBd⟩, by simp [intOf]; omega⟩
              · have HZ := hnot (fun e => g3 (by rw [e]))
                clear hnot
                go_wp2_with fail
                go_region
                all_goals go_wp2
                all_goals go_ret
                all_goals exact ⟨⟨false, rfl, by simp [HZ.out]⟩, hBd⟩
            · have HZ := hnot (fun e => g2 (by rw [e]))
              clear hnot
              go_wp2_with fail
              go_region
              all_goals go_wp2
              all_goals go_ret
              all_goals exact ⟨⟨false, rfl, by simp [HZ.out]⟩, hBd⟩
          · have HZ := hnot (fun e => g1 (by rw [e]))
            clear hnot
            go_wp2_with fail
            go_region
            all_goals go_wp2
            all_goals go_ret
            all_goals exact ⟨⟨false, rfl, by simp [HZ.out]⟩, hBd⟩
        · have HZ := hnot (fun e => g0 (by rw [e]))
          clear hnot
          go_wp2_with fail
          go_region
          all_goals go_wp2
          all_goals go_ret
          all_goals exact ⟨⟨false, rfl, by simp [HZ.out]⟩, hBd⟩
      · obtain rfl : j = a.length := by omega
        have hZ : a = b := by
          have h := HT.out
          rw [List.take_length, List.take_of_length_le hge] at h
          exact h
        have HZ := Lib.hid hZ
        have i2 : ¬ (a.length : Int) < (a.length : Int) := by omega
        clear hZ hlt
        go_wp2
        go_ret
        exact ⟨⟨true, rfl, by simp [HZ.out]⟩, hB⟩
  · have hlb2 : ((a.length : Int) != (b.length : Int)) = true := by
      rw [bne_iff_ne]; omega
    have HZ : Hid (a ≠ b) := Lib.hid fun e => hll (by rw [e])
    clear hll
    go_enter Try.func11, Try.ntmps11
    go_wp2
    go_ret
    exact ⟨⟨false, rfl, by simp [HZ.out]⟩, Below.refl _ _⟩

end Go.Proofs.Ytgpcbfjakgndlaa
