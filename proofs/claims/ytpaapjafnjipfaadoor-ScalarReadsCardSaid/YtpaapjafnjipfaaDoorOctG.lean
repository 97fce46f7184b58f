/-
  A slice of bytes as a string. No condition but those of each theorem.
-/
import Derived.Test.YtpaapjafnjipfaaDoorOctF
import Derived.Laws.IdiomStrings
import Derived.Laws.BytesArg
namespace Go.Proofs.YtpaapjafnjipfaaDoor
open Go.RowKit

theorem str_of {w : World} {d : Nat} {v : Value} {l : List UInt8} (h : Rd w d v l) : (convert 30 9 v).run Tryd.prog w = .ok (.string ⟨l.toArray⟩) w := by
  obtain ⟨A, c, rfl, h1, h2, h3⟩ := h
  rcases A with _ | a
  · have hl : l = [] := by
      rcases Nat.eq_zero_or_pos l.length with h0 | h0
      · exact List.eq_nil_of_length_eq_zero h0
      · obtain ⟨_, he, _⟩ := h3 h0
        cases he
    subst hl
    rw [run_convert_bytes_nil w 30 5 Tryd.underlying30 Tryd.underlying5 _ _ 9 Tryd.underlying9]
    rfl
  · refine run_convert_bytes_back w 30 9 5 a c l Tryd.underlying30 Tryd.underlying5 Tryd.underlying9 (fun j hj => ?_)
    obtain ⟨off, he, hc⟩ := h3 (by omega)
    injection he with he
    subst he
    have := hc j _ (List.getElem?_eq_getElem hj)
    have e : (⟨d, off, none⟩ : Addr).add j = ⟨d, off + j, none⟩ := by unfold Addr.add; split <;> simp_all
    rw [e]
    exact this

end Go.Proofs.YtpaapjafnjipfaaDoor
