/-
  A slice of bytes that came in, as the row tells it, read as bytes; and parts of a slice. No condition but those of each theorem.
-/
import Derived.Test.YtpaapjafnjipfaaDoorOctH
import Derived.OpenShut
namespace Go.Proofs.YtpaapjafnjipfaaDoor
open Go.RowKit

/-- What a walk is told of a slice of integers that came in. -/
def IsRow (k : IntKind) (w : World) (a : Option Addr) (len cap : Nat) (zs : List Int) : Prop :=
  (a = none ∧ len = 0 ∧ cap = 0 ∧ zs = []) ∨
  ∃ x, a = some x ∧ len ≤ cap ∧ cap ≤ maxLen ∧ zs.length = cap ∧ (∀ i, i < zs.length → w.cell? (x.add i) = some (.int k (zs.getD i 0))) ∧ ∀ n ∈ zs, (Lit.int k n).wf = true

theorem IsRow.rd {w : World} {a : Option Addr} {len cap : Nat} {zs : List Int} (h : IsRow .u8 w a len cap zs) (hl : len ≤ 140737488355328) :
    ∃ d l, l.length = len ∧ d ≤ w.heap.size ∧ Rd w d (.slice a len cap) l := by
  rcases h with ⟨rfl, rfl, rfl, rfl⟩ | ⟨x, rfl, hlc, hcm, hz, hcell, hwf⟩
  · exact ⟨0, [], rfl, Nat.zero_le _, Rd.nil _ _⟩
  · have hlen : ((zs.take len).map fun n => UInt8.ofNat n.toNat).length = len := by simp; omega
    by_cases h0 : 0 < len
    · have hx : x.spot = none := World.cell?_spot (by have := hcell 0 (by omega); simpa [Addr.add] using this)
      obtain ⟨b, off, sp⟩ := x
      have hsp : sp = none := hx
      subst hsp
      have hlt : b < w.heap.size := by
        have := World.block_lt_of_cell? w _ (hcell 0 (by omega))
        simpa [Addr.add] using this
      refine ⟨b, (zs.take len).map fun n => UInt8.ofNat n.toNat, hlen, by omega, _, cap, by rw [hlen], by omega, by omega, fun _ => ⟨off, rfl, fun j y hj => ?_⟩⟩
      have hjl : j < len := by have := (List.getElem?_eq_some_iff.1 hj).1; omega
      have hc := hcell j (by omega)
      have e : (⟨b, off, none⟩ : Addr).add j = ⟨b, off + j, none⟩ := by unfold Addr.add; split <;> simp_all
      rw [e] at hc
      rw [hc]
      have hjz : j < zs.length := by omega
      have hy : y = UInt8.ofNat (zs[j]).toNat := by
        rw [List.getElem?_map, List.getElem?_take_of_lt hjl, List.getElem?_eq_getElem hjz] at hj
        simpa using hj.symm
      obtain ⟨b0, b1⟩ := bounds_u8 (hwf zs[j] (List.getElem_mem hjz))
      rw [hy]
      unfold byteV
      rw [ofNat_toNat]
      have hg : zs.getD j 0 = zs[j] := by simp [List.getD, List.getElem?_eq_getElem hjz]
      rw [hg]
      congr 2
      omega
    · have : len = 0 := by omega
      subst this
      exact ⟨0, [], rfl, Nat.zero_le _, _, cap, rfl, Nat.zero_le _, by simp, fun hp => absurd hp (by simp)⟩

/-- The slice v reads as the numbers xs of kind k, which lie in block d (where there is any). -/
def RdN (k : IntKind) (w : World) (d : Nat) (v : Value) (xs : List Nat) : Prop :=
  ∃ A c, v = .slice A xs.length c ∧ xs.length ≤ c ∧ (0 < xs.length → d < w.heap.size ∧ ∃ off, A = some ⟨d, off, none⟩ ∧ ∀ j x : Nat, xs[j]? = some x → w.cell? ⟨d, off + j, none⟩ = some (.int k (x : Int)))
theorem RdN.below {k : IntKind} {w w' : World} {d : Nat} {v : Value} {xs : List Nat} (h : RdN k w d v xs) (hb : Below w.heap.size w w') : RdN k w' d v xs := by
  obtain ⟨A, c, rfl, h1, h2⟩ := h
  refine ⟨A, c, rfl, h1, fun hp => ?_⟩
  obtain ⟨hlt, off, rfl, hc⟩ := h2 hp
  exact ⟨Nat.lt_of_lt_of_le hlt hb.size, off, rfl, fun j x hx => (hb.cell (p := ⟨d, off + j, none⟩) hlt).trans (hc j x hx)⟩

theorem RdN.grown {k : IntKind} {w w' : World} {d g : Nat} {v : Value} {xs : List Nat} (h : RdN k w d v xs) (hb : w.grownBy w' (some g)) (hd : 0 < xs.length → d ≠ g) : RdN k w' d v xs := by
  obtain ⟨A, c, rfl, h1, h2⟩ := h
  refine ⟨A, c, rfl, h1, fun hp => ?_⟩
  obtain ⟨hlt, off, rfl, hc⟩ := h2 hp
  refine ⟨Nat.lt_of_lt_of_le hlt hb.size, off, rfl, fun j x hx => hb.cell (hc j x hx) ?_⟩
  intro e
  injection e with e
  exact hd hp e

theorem IsRow.rdN {k : IntKind} {M : Nat} (hk : ∀ n : Int, (Lit.int k n).wf = true → 0 ≤ n ∧ n < (M : Int)) {w : World} {a : Option Addr} {len cap : Nat} {zs : List Int} (h : IsRow k w a len cap zs) :
    ∃ d xs, xs.length = len ∧ (∀ x ∈ xs, x < M) ∧ RdN k w d (.slice a len cap) xs := by
  rcases h with ⟨rfl, rfl, rfl, rfl⟩ | ⟨x, rfl, hlc, hcm, hz, hcell, hwf⟩
  · exact ⟨0, [], rfl, by simp, none, 0, rfl, Nat.le_refl _, fun hp => absurd hp (by simp)⟩
  · have hlen : ((zs.take len).map fun n => n.toNat).length = len := by simp; omega
    have hM : ∀ x ∈ (zs.take len).map (fun n => n.toNat), x < M := by
      intro x hx
      obtain ⟨z, hz, rfl⟩ := List.mem_map.1 hx
      obtain ⟨b0, b1⟩ := hk z (hwf z (List.mem_of_mem_take hz))
      omega
    by_cases h0 : 0 < len
    · have hx : x.spot = none := World.cell?_spot (by have := hcell 0 (by omega); simpa [Addr.add] using this)
      obtain ⟨b, off, sp⟩ := x
      have hsp : sp = none := hx
      subst hsp
      have hlt : b < w.heap.size := by
        have := World.block_lt_of_cell? w _ (hcell 0 (by omega))
        simpa [Addr.add] using this
      refine ⟨b, (zs.take len).map fun n => n.toNat, hlen, hM, some ⟨b, off, none⟩, cap, by rw [hlen], by omega, fun _ => ⟨hlt, off, rfl, fun j y hj => ?_⟩⟩
      have hjl : j < len := by have := (List.getElem?_eq_some_iff.1 hj).1; omega
      have hc := hcell j (by omega)
      have e : (⟨b, off, none⟩ : Addr).add j = ⟨b, off + j, none⟩ := by unfold Addr.add; split <;> simp_all
      rw [e] at hc
      rw [hc]
      have hjz : j < zs.length := by omega
      have hy : y = (zs[j]).toNat := by
        rw [List.getElem?_map, List.getElem?_take_of_lt hjl, List.getElem?_eq_getElem hjz] at hj
        simpa using hj.symm
      obtain ⟨b0, b1⟩ := hk zs[j] (hwf zs[j] (List.getElem_mem hjz))
      have hg : zs.getD j 0 = zs[j] := by simp [List.getD, List.getElem?_eq_getElem hjz]
      rw [hy, hg]
      congr 2
      omega
    · have : len = 0 := by omega
      subst this
      exact ⟨0, [], rfl, by simp, some x, cap, rfl, Nat.zero_le _, fun hp => absurd hp (by simp)⟩

section
variable {w : World} {d n c : Nat} {A : Option Addr} {l : List UInt8}
theorem Rd.cap (h : Rd w d (.slice A n c) l) : l.length = n ∧ n ≤ c := by
  obtain ⟨A', c', e, h1, _⟩ := h
  injection e with _ e2 e3
  omega
theorem elem22 : Tryd.prog.underlying 30 = some (.slice (Tryd.prog.elem 30)) := by kernel_rfl
theorem size22 (W : World) : (sizeOf (Tryd.prog.elem 30)).run Tryd.prog W = .ok 1 W := by kernel_rfl

theorem slice_part (h : Rd w d (.slice A n c) l) (lo hi : Nat) (hiI : Int) (e : hiI = hi) (h1 : lo ≤ hi) (h2 : hi ≤ n) :
    ∃ vs, (∀ W, (Instr.slice 30 (.slice A n c) (some (.int .i64 (lo : Int))) (some (.int .i64 hiI)) none).run Tryd.prog W = .ok vs W) ∧ Rd w d vs ((l.take hi).drop lo) := by
  subst e
  have hlc := h.cap.2
  have ht2 := h.take h2
  have hrun : ∀ W, (Instr.slice 30 (.slice A n c) (some (.int .i64 (lo : Int))) (some (.int .i64 (hi : Int))) none).run Tryd.prog W = .ok (sliced A lo hi c 1) W := fun W => by
    rw [run_slice_lh W 30 A n c elem22 .i64 .i64 (lo : Int) (hi : Int) (by omega) (by omega) (by omega), size22]
    rfl
  refine ⟨_, hrun, ?_⟩
  unfold sliced
  by_cases hc : c = lo
  · rw [if_pos hc, hc, Nat.sub_self]
    rw [hc] at ht2
    exact ht2.drop_end h1 rfl
  · rw [if_neg hc, Nat.mul_one]
    exact ht2.drop h1 hc
theorem slice_from (h : Rd w d (.slice A n c) l) (lo : Nat) (loI : Int) (e : loI = lo) (h1 : lo ≤ n) :
    ∃ vs, (∀ W, (Instr.slice 30 (.slice A n c) (some (.int .i64 loI)) none none).run Tryd.prog W = .ok vs W) ∧ Rd w d vs (l.drop lo) := by
  subst e
  have hlc := h.cap.2
  have hrun : ∀ W, (Instr.slice 30 (.slice A n c) (some (.int .i64 (lo : Int))) none none).run Tryd.prog W = .ok (sliced A lo n c 1) W := fun W => by
    rw [run_slice_l W 30 A n c elem22 .i64 (lo : Int) (by omega) (by omega), size22]
    rfl
  refine ⟨_, hrun, ?_⟩
  unfold sliced
  by_cases hc : c = lo
  · rw [if_pos hc, hc, Nat.sub_self]
    rw [hc] at h
    exact h.drop_end h1 rfl
  · rw [if_neg hc, Nat.mul_one]
    exact h.drop h1 hc
theorem slice_to (h : Rd w d (.slice A n c) l) (hi : Nat) (hiI : Int) (e : hiI = hi) (h1 : hi ≤ n) :
    ∃ vs, (∀ W, (Instr.slice 30 (.slice A n c) none (some (.int .i64 hiI)) none).run Tryd.prog W = .ok vs W) ∧ Rd w d vs (l.take hi) := by
  subst e
  have hlc := h.cap.2
  have hrun : ∀ W, (Instr.slice 30 (.slice A n c) none (some (.int .i64 (hi : Int))) none).run Tryd.prog W = .ok (sliced A 0 hi c 1) W := fun W => by
    rw [run_slice_h W 30 A n c elem22 .i64 (hi : Int) (by omega) (by omega), size22]
    rfl
  refine ⟨_, hrun, ?_⟩
  unfold sliced
  have e : (if c = 0 then A else A.map fun x => x.add (0 * 1)) = A := by
    split
    · rfl
    · cases A <;> simp [Addr.add]
  rw [e]
  exact h.take h1
end

end Go.Proofs.YtpaapjafnjipfaaDoor
