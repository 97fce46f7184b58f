/-
  For all items of bulk at most 1048576, the law TlvPuts answers true: whether they may be put, how many bytes they have, and these, or the error, are the document's.
-/
import Derived.Test.YtdpaijechogmlaaRows
import Derived.Test.YtdpaijechogmlaaTlvOpen
import Derived.Test.YtdpaijechogmlaaLaw03D
import Derived.Test.YtdpaijechogmlaaTlvC
import Derived.WalkKit
import Derived.ProofKit
import Derived.OpenShut
import Derived.ShutString
import Derived.ChangeOld
import Derived.Below
import Derived.JoinedCond
namespace Go.Proofs.Ytdpaijechogmlaa.tlvPuts
open Go.ChangeShapes Go.WideShapes Go.ChangeAt Go.RowKit
set_option linter.unusedVariables false

theorem own : ownKnob Try.prog.godebug = none := by kernel_rfl
theorem laidOut : laidOutB Try.prog = true := by kernel_rfl

/-- A slice of items that came in, opened. -/
theorem opened {H : Type} {enc : TypeId × Value → H} {W : World} {v : Value} {d : DataW H} {p : List MemPlace} (h : DataW.Trod enc Try.prog W 0 (fun _ => true) true 22 v d p) (hv : ∃ A l c, v = .slice A l c) (hB : Rows.uptoBulk d ≤ 1048576) :
    ∃ f, FV DataI W (Lo W) v f ∧ f.sz ≤ 1048576 := by
  obtain ⟨fuel, hf⟩ := h
  obtain ⟨A, l, c, rfl⟩ := hv
  have hf' : DataW.trod enc Try.prog W 0 (fun _ => true) true fuel 22 [.slice A l c] = some (d, p) := hf
  obtain ⟨f, h1, h2⟩ := open_items (x := (d, p)) Try.underlying22 Try.underlying46 (by kernel_rfl) (by kernel_rfl) rfl rfl rfl Try.underlying44 Try.underlying27 Try.underlying5 (by kernel_rfl) fuel (Nat.le_refl _) hf' (by show Rows.uptoBulk d ≤ _; omega)
  exact ⟨f, h1, Nat.le_trans h2 hB⟩

set_option maxRecDepth 100000 in
theorem lifted (C : TlvC) (os : Os) (started : os.Started) (H : Type) (enc : TypeId × Value → H) (F : Stop.Interp) :
    ReturnsInHanded {} Try.checked os 3 .any ((Rows.OpenSpec.upto Rows.tlvPutsSpec).pre6 enc Try.prog Try.f3 Rows.tlvPutsUptoRow.domain false) (((Rows.OpenSpec.upto Rows.tlvPutsSpec).at F).post enc Try.prog Try.f3 false true false false) := by
  refine returnsInHanded_of_cond (C := Try.checked) (s := Rows.OpenSpec.upto Rows.tlvPutsSpec) (k := Rows.uptoSmall) rfl own started (by kernel_rfl) Try.func3
    (OpenSpec.witness (enc := enc) (C := Try.checked) (s := Rows.OpenSpec.upto Rows.tlvPutsSpec) (k := Rows.uptoSmall) rfl false ⟨#[], #[.slice none 0 0], []⟩ 8 (by kernel_rfl) (by kernel_rfl) (by kernel_rfl)
      (x := ([.nil], [], [])) (by kernel_rfl) rfl (by kernel_rfl)) ?_
  intro W base args ds gs before hval0 hW hcnd hk _
  have hval : ∀ (j : Nat) t v, Try.f3.params[j]? = some t → args[j]? = some v → Value.okWide Try.prog W .any base t v := hval0
  have hW' := hW
  obtain ⟨p, q, hA0, hV, rfl, hfz, hnd⟩ := hW
  have hA : DataW.TrodAll enc Try.prog W 0 (fun _ => true) true Try.f3.params.toList args.toList ds p := hA0
  rw [Try.params3] at hA hval
  obtain ⟨v0, vs0, d0, ds0, p0, q0, hargs, rfl, rfl, h0, r0⟩ := trodAll_cons hA
  obtain ⟨rfl, rfl, rfl⟩ := trodAll_nil r0
  obtain rfl : args = #[v0] := by cases args; simp_all
  obtain ⟨rfl, rfl⟩ := trodVars_none hV
  have hbulk := of_decide_eq_true hk
  simp only [List.append_nil, Rows.uptoBulkAll] at hbulk
  have s0 := okWide_slice Try.underlying22 (hval 0 22 v0 rfl rfl)
  have k0 := h0
  have lt0 : ∀ x ∈ p0, x.block < W.heap.size := by obtain ⟨m, hm⟩ := k0; exact DataW.trod_lt m _ _ _ hm
  obtain ⟨f0, g0, z0⟩ := opened h0 s0 (by omega)
  clear hA0 hval0
  refine (tlvPuts_walk C f0 v0 W g0 (by omega)).mono fun e W' ⟨he, bel⟩ => ?_
  subst he
  exact ⟨_, rfl, _, _, _, [], _, [], hW', trodAll_mk1 (shut_bool Try.underlying4 _), (trodAll_cons_mk (Below.trod laidOut (by kernel_rfl) (of_decide_eq_true (by kernel_rfl)) k0 bel lt0) trodAll_mk0), rfl, bel.frame _, fun h => by cases h⟩

theorem over (C : TlvC) : Rows.tlvPutsUptoRow.holds Try.pinned (Rows.OpenSpec.upto Rows.tlvPutsSpec) :=
  OpenClaim.holds_of_cond 3 Try.f3 rfl rfl rfl rfl rfl rfl rfl ⟨rfl, rfl, rfl, rfl, rfl⟩ rfl rfl rfl rfl rfl (by kernel_rfl) Try.func3 (by kernel_rfl)
    (of_decide_eq_true (by kernel_rfl)) (by unfold Func.isWrapper; first | (rw [if_pos (by decide +kernel)]; kernel_rfl) | (rw [if_neg (by decide +kernel)]; exact ⟨rfl, rfl⟩))
    (fun os started H enc _ F => lifted C os started H enc F)

theorem proved : Rows.TlvPutsUptoSaid :=
  over tlvC
#print axioms proved
end Go.Proofs.Ytdpaijechogmlaa.tlvPuts
