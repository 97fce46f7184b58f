/- What the laws of package tree want of OctB. -/
import Derived.Test.YtgipnemcmiohlaaZ0OctA
namespace Go.Proofs.Ytgipnemcmiohlaa
open Go.RowKit
section
variable {w : World} {d n k c : Nat} {A : Option Addr} {l : List UInt8}
theorem Rd.take (h : Rd w d (.slice A n c) l) (hk : k ≤ n) : Rd w d (.slice A k c) (l.take k) := by
  obtain ⟨A', c', hv, h1, h2, h3⟩ := h
  injection hv with e1 e2 e3
  subst e1 e2 e3
  have hl : (l.take k).length = k := by simp; omega
  refine ⟨A, c, by rw [hl], by omega, by omega, fun hp => ?_⟩
  obtain ⟨off, rfl, hc⟩ := h3 (by omega)
  exact ⟨off, rfl, fun j b hb => hc j b (by rw [List.getElem?_take] at hb; split at hb <;> simp_all)⟩
theorem Rd.drop (h : Rd w d (.slice A n c) l) (hk : k ≤ n) (_hne : ¬ c = k) : Rd w d (.slice (Option.map (fun x => x.add k) A) (n - k) (c - k)) (l.drop k) := by
  obtain ⟨A', c', hv, h1, h2, h3⟩ := h
  injection hv with e1 e2 e3
  subst e1 e2 e3
  have hl : (l.drop k).length = l.length - k := by simp
  refine ⟨_, _, by rw [hl], by omega, by omega, fun hp => ?_⟩
  obtain ⟨off, rfl, hc⟩ := h3 (by omega)
  refine ⟨off + k, ?_, fun j b hb => ?_⟩
  · simp only [Option.map_some, Addr.add]
    by_cases h0 : k = 0 <;> simp [h0]
  · have := hc (k + j) b (by rw [← hb, List.getElem?_drop])
    rwa [← Nat.add_assoc] at this
end
/-- What next answers, what is left, and the error, of a window that has l left, and the error e. -/
def nx (l : List UInt8) (e n : Int) : List UInt8 × List UInt8 × Int :=
  if e ≠ 0 then ([], l, e) else if n < 0 then ([], l, 1) else if (l.length : Int) < n then ([], l, 10) else (l.take n.toNat, l.drop n.toNat, 0)
end Go.Proofs.Ytgipnemcmiohlaa

