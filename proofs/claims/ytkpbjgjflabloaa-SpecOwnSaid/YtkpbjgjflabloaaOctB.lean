/-
  What package octet's next and copied do: next takes bytes from a window's front, or sets its error; copied lays the same bytes in a new block. No condition but those of each theorem.
-/
import Derived.Test.YtkpbjgjflabloaaOctA
namespace Go.Proofs.Ytkpbjgjflabloaa
open Go.RowKit

theorem Try.cells22o : (Try.prog.info? 5).map (fun i => (i.zero, i.size, i.bytes)) = some (some (.int .u8 0), 1, 1) := by kernel_rfl

section
variable {w : World} {d n k c : Nat} {A : Option Addr} {l : List UInt8}
theorem Rd.take (h : Rd w d (.slice A n c) l) (hk : k ≤ n) : Rd w d (.slice A k c) (l.take k) := by
  obtain ⟨A', c', hv, h1, h2, h3⟩ := h
  injection hv with e1 e2 e3
  subst e1 e2 e3
  have hl : (l.take k).length = k := by simp; omega
  refine ⟨A, c, by rw [hl], by omega, by omega, fun hp => ?_⟩
  obtain ⟨off, rfl, hc⟩ := h3 (by omega)
  exact ⟨off, rfl, fun j b hb => hc j b (by rw [List.getElem?_take] at hb; split at hb <;> simp_all)⟩
theorem Rd.drop (h : Rd w d (.slice A n c) l) (hk : k ≤ n) (_hne : ¬ c = k) : Rd w d (.slice (Option.map (fun x => x.add k) A) (n - k) (c - k)) (l.drop k) := by
  obtain ⟨A', c', hv, h1, h2, h3⟩ := h
  injection hv with e1 e2 e3
  subst e1 e2 e3
  have hl : (l.drop k).length = l.length - k := by simp
  refine ⟨_, _, by rw [hl], by omega, by omega, fun hp => ?_⟩
  obtain ⟨off, rfl, hc⟩ := h3 (by omega)
  refine ⟨off + k, ?_, fun j b hb => ?_⟩
  · simp only [Option.map_some, Addr.add]
    by_cases h0 : k = 0 <;> simp [h0]
  · have := hc (k + j) b (by rw [← hb, List.getElem?_drop])
    rwa [← Nat.add_assoc] at this
theorem Rd.drop_end (h : Rd w d (.slice A n c) l) (hk : k ≤ n) (he : c = k) : Rd w d (.slice A (n - k) 0) (l.drop k) := by
  obtain ⟨A', c', hv, h1, h2, h3⟩ := h
  injection hv with e1 e2 e3
  subst e1 e2 e3
  have hl : (l.drop k).length = l.length - k := by simp
  exact ⟨_, _, by rw [hl], by omega, by omega, fun hp => absurd hp (by omega)⟩
end

/-! ### next -/
/-- What next answers, what is left, and the error, of a window that has l left, and the error e. -/
def nx (l : List UInt8) (e n : Int) : List UInt8 × List UInt8 × Int :=
  if e ≠ 0 then ([], l, e) else if n < 0 then ([], l, 1) else if (l.length : Int) < n then ([], l, 10) else (l.take n.toNat, l.drop n.toNat, 0)

theorem grown_set {w : World} {g i : Nat} (u : Value) : w.grownBy (w.setCell ⟨g, i, none⟩ u) (some g) :=
  ⟨rfl, rfl, rfl, by simp [World.setCell], fun k _ hne => Below.heap_setCell w _ u k (fun e => hne (by rw [e]))⟩

/-! ### copied -/
def CopyPost (l : List UInt8) (w : World) (r : Ending) (w' : World) : Prop :=
  r = .returned (.slice (some ⟨w.heap.size, 0, none⟩) l.length l.length) ∧ Blk w' w.heap.size 5 (l.map byteV).toArray ∧ Below w.heap.size w w' ∧ Sz w' (w.heap.size + 1)

end Go.Proofs.Ytkpbjgjflabloaa
