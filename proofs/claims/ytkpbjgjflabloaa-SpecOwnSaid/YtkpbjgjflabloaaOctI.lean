/-
  A slice of bytes that came in, as the row tells it, read as bytes; and parts of a slice. No condition but those of each theorem.
-/
import Derived.Test.YtkpbjgjflabloaaOctH
import Derived.OpenShut
namespace Go.Proofs.Ytkpbjgjflabloaa
open Go.RowKit

/-- What a walk is told of a slice of integers that came in. -/
def IsRow (k : IntKind) (w : World) (a : Option Addr) (len cap : Nat) (zs : List Int) : Prop :=
  (a = none ∧ len = 0 ∧ cap = 0 ∧ zs = []) ∨
  ∃ x, a = some x ∧ len ≤ cap ∧ cap ≤ maxLen ∧ zs.length = cap ∧ (∀ i, i < zs.length → w.cell? (x.add i) = some (.int k (zs.getD i 0))) ∧ ∀ n ∈ zs, (Lit.int k n).wf = true

theorem IsRow.rd {w : World} {a : Option Addr} {len cap : Nat} {zs : List Int} (h : IsRow .u8 w a len cap zs) (hl : len ≤ 140737488355328) :
    ∃ d l, l.length = len ∧ d ≤ w.heap.size ∧ Rd w d (.slice a len cap) l := by
  rcases h with ⟨rfl, rfl, rfl, rfl⟩ | ⟨x, rfl, hlc, hcm, hz, hcell, hwf⟩
  · exact ⟨0, [], rfl, Nat.zero_le _, Rd.nil _ _⟩
  · have hlen : ((zs.take len).map fun n => UInt8.ofNat n.toNat).length = len := by simp; omega
    by_cases h0 : 0 < len
    · have hx : x.spot = none := World.cell?_spot (by have := hcell 0 (by omega); simpa [Addr.add] using this)
      obtain ⟨b, off, sp⟩ := x
      have hsp : sp = none := hx
      subst hsp
      have hlt : b < w.heap.size := by
        have := World.block_lt_of_cell? w _ (hcell 0 (by omega))
        simpa [Addr.add] using this
      refine ⟨b, (zs.take len).map fun n => UInt8.ofNat n.toNat, hlen, by omega, _, cap, by rw [hlen], by omega, by omega, fun _ => ⟨off, rfl, fun j y hj => ?_⟩⟩
      have hjl : j < len := by have := (List.getElem?_eq_some_iff.1 hj).1; omega
      have hc := hcell j (by omega)
      have e : (⟨b, off, none⟩ : Addr).add j = ⟨b, off + j, none⟩ := by unfold Addr.add; split <;> simp_all
      rw [e] at hc
      rw [hc]
      have hjz : j < zs.length := by omega
      have hy : y = UInt8.ofNat (zs[j]).toNat := by
        rw [List.getElem?_map, List.getElem?_take_of_lt hjl, List.getElem?_eq_getElem hjz] at hj
        simpa using hj.symm
      obtain ⟨b0, b1⟩ := bounds_u8 (hwf zs[j] (List.getElem_mem hjz))
      rw [hy]
      unfold byteV
      rw [ofNat_toNat]
      have hg : zs.getD j 0 = zs[j] := by simp [List.getD, List.getElem?_eq_getElem hjz]
      rw [hg]
      congr 2
      omega
    · have : len = 0 := by omega
      subst this
      exact ⟨0, [], rfl, Nat.zero_le _, _, cap, rfl, Nat.zero_le _, by simp, fun hp => absurd hp (by simp)⟩

/-- The slice v reads as the numbers xs of kind k, which lie in block d (where there is any). -/
def RdN (k : IntKind) (w : World) (d : Nat) (v : Value) (xs : List Nat) : Prop :=
  ∃ A c, v = .slice A xs.length c ∧ xs.length ≤ c ∧ (0 < xs.length → d < w.heap.size ∧ ∃ off, A = some ⟨d, off, none⟩ ∧ ∀ j x : Nat, xs[j]? = some x → w.cell? ⟨d, off + j, none⟩ = some (.int k (x : Int)))
theorem RdN.below {k : IntKind} {w w' : World} {d : Nat} {v : Value} {xs : List Nat} (h : RdN k w d v xs) (hb : Below w.heap.size w w') : RdN k w' d v xs := by
  obtain ⟨A, c, rfl, h1, h2⟩ := h
  refine ⟨A, c, rfl, h1, fun hp => ?_⟩
  obtain ⟨hlt, off, rfl, hc⟩ := h2 hp
  exact ⟨Nat.lt_of_lt_of_le hlt hb.size, off, rfl, fun j x hx => (hb.cell (p := ⟨d, off + j, none⟩) hlt).trans (hc j x hx)⟩

theorem RdN.grown {k : IntKind} {w w' : World} {d g : Nat} {v : Value} {xs : List Nat} (h : RdN k w d v xs) (hb : w.grownBy w' (some g)) (hd : 0 < xs.length → d ≠ g) : RdN k w' d v xs := by
  obtain ⟨A, c, rfl, h1, h2⟩ := h
  refine ⟨A, c, rfl, h1, fun hp => ?_⟩
  obtain ⟨hlt, off, rfl, hc⟩ := h2 hp
  refine ⟨Nat.lt_of_lt_of_le hlt hb.size, off, rfl, fun j x hx => hb.cell (hc j x hx) ?_⟩
  intro e
  injection e with e
  exact hd hp e

theorem IsRow.rdN {k : IntKind} {M : Nat} (hk : ∀ n : Int, (Lit.int k n).wf = true → 0 ≤ n ∧ n < (M : Int)) {w : World} {a : Option Addr} {len cap : Nat} {zs : List Int} (h : IsRow k w a len cap zs) :
    ∃ d xs, xs.length = len ∧ (∀ x ∈ xs, x < M) ∧ RdN k w d (.slice a len cap) xs := by
  rcases h with ⟨rfl, rfl, rfl, rfl⟩ | ⟨x, rfl, hlc, hcm, hz, hcell, hwf⟩
  · exact ⟨0, [], rfl, by simp, none, 0, rfl, Nat.le_refl _, fun hp => absurd hp (by simp)⟩
  · have hlen : ((zs.take len).map fun n => n.toNat).length = len := by simp; omega
    have hM : ∀ x ∈ (zs.take len).map (fun n => n.toNat), x < M := by
      intro x hx
      obtain ⟨z, hz, rfl⟩ := List.mem_map.1 hx
      obtain ⟨b0, b1⟩ := hk z (hwf z (List.mem_of_mem_take hz))
      omega
    by_cases h0 : 0 < len
    · have hx : x.spot = none := World.cell?_spot (by have := hcell 0 (by omega); simpa [Addr.add] using this)
      obtain ⟨b, off, sp⟩ := x
      have hsp : sp = none := hx
      subst hsp
      have hlt : b < w.heap.size := by
        have := World.block_lt_of_cell? w _ (hcell 0 (by omega))
        simpa [Addr.add] using this
      refine ⟨b, (zs.take len).map fun n => n.toNat, hlen, hM, some ⟨b, off, none⟩, cap, by rw [hlen], by omega, fun _ => ⟨hlt, off, rfl, fun j y hj => ?_⟩⟩
      have hjl : j < len := by have := (List.getElem?_eq_some_iff.1 hj).1; omega
      have hc := hcell j (by omega)
      have e : (⟨b, off, none⟩ : Addr).add j = ⟨b, off + j, none⟩ := by unfold Addr.add; split <;> simp_all
      rw [e] at hc
      rw [hc]
      have hjz : j < zs.length := by omega
      have hy : y = (zs[j]).toNat := by
        rw [List.getElem?_map, List.getElem?_take_of_lt hjl, List.getElem?_eq_getElem hjz] at hj
        simpa using hj.symm
      obtain ⟨b0, b1⟩ := hk zs[j] (hwf zs[j] (List.getElem_mem hjz))
      have hg : zs.getD j 0 = zs[j] := by simp [List.getD, List.getElem?_eq_getElem hjz]
      rw [hy, hg]
      congr 2
      omega
    · have : len = 0 := by omega
      subst this
      exact ⟨0, [], rfl, by simp, some x, cap, rfl, Nat.zero_le _, fun hp => absurd hp (by simp)⟩

section
variable {w : World} {d n c : Nat} {A : Option Addr} {l : List UInt8}
theorem Rd.cap (h : Rd w d (.slice A n c) l) : l.length = n ∧ n ≤ c := by
  obtain ⟨A', c', e, h1, _⟩ := h
  injection e with _ e2 e3
  omega
end

end Go.Proofs.Ytkpbjgjflabloaa
