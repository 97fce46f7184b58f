/-
  For all trees (edits) of bulk at most 1048576, the law DiffRows answers true: the inverse of edits, how many are below a way, and whether two rows are the same, are the document's.
-/
import Derived.Test.YthdhchhpjoghlaaRows
import Derived.Test.YthdhchhpjoghlaaADifTop
import Derived.WalkKit
import Derived.ProofKit
import Derived.OpenShut
import Derived.ShutString
import Derived.ChangeOld
import Derived.Below
import Derived.JoinedCond
namespace Go.Proofs.Ythdhchhpjoghlaa.diffRows
open Go.ChangeShapes Go.WideShapes Go.ChangeAt Go.RowKit
set_option linter.unusedVariables false

theorem own : ownKnob Try.prog.godebug = none := by kernel_rfl
theorem laidOut : laidOutB Try.prog = true := by kernel_rfl

set_option maxRecDepth 100000 in
theorem lifted (os : Os) (started : os.Started) (H : Type) (enc : TypeId × Value → H) (F : Stop.Interp) :
    ReturnsInHanded {} Try.checked os 4 .any ((Rows.OpenSpec.upto Rows.diffRowsSpec).pre6 enc Try.prog Try.f4 Rows.diffRowsUptoRow.domain false) (((Rows.OpenSpec.upto Rows.diffRowsSpec).at F).post enc Try.prog Try.f4 false true false false) := by
  refine returnsInHanded_of_cond (C := Try.checked) (s := Rows.OpenSpec.upto Rows.diffRowsSpec) (k := Rows.uptoSmall) rfl own started (by kernel_rfl) Try.func4
    (OpenSpec.witness (enc := enc) (C := Try.checked) (s := Rows.OpenSpec.upto Rows.diffRowsSpec) (k := Rows.uptoSmall) rfl false ⟨#[], #[.slice none 0 0, .slice none 0 0, .slice none 0 0], []⟩ 8 (by kernel_rfl) (by kernel_rfl) (by kernel_rfl)
      (x := ([.nil, .nil, .nil], [], [])) (by kernel_rfl) rfl (by kernel_rfl)) ?_
  intro W base args ds gs before hval0 hW hcnd hk _
  have hval : ∀ (j : Nat) t v, Try.f4.params[j]? = some t → args[j]? = some v → Value.okWide Try.prog W .any base t v := hval0
  have hW' := hW
  obtain ⟨p, q, hA0, hV, rfl, hfz, hnd⟩ := hW
  have hA : DataW.TrodAll enc Try.prog W 0 (fun _ => true) true Try.f4.params.toList args.toList ds p := hA0
  rw [Try.params4] at hA hval
  obtain ⟨v0, vs0, d0, ds0, p0, q0, hargs, rfl, rfl, h0, r0⟩ := trodAll_cons hA
  obtain ⟨v1, vs1, d1, ds1, p1, q1, rfl, rfl, rfl, h1, r1⟩ := trodAll_cons r0
  obtain ⟨v2, vs2, d2, ds2, p2, q2, rfl, rfl, rfl, h2, r2⟩ := trodAll_cons r1
  obtain ⟨rfl, rfl, rfl⟩ := trodAll_nil r2
  obtain rfl : args = #[v0, v1, v2] := by cases args; simp_all
  obtain ⟨rfl, rfl⟩ := trodVars_none hV
  have hbulk := of_decide_eq_true hk
  simp only [List.append_nil, Rows.uptoBulkAll] at hbulk
  have k0 := h0
  have lt0 : ∀ x ∈ p0, x.block < W.heap.size := by obtain ⟨m, hm⟩ := k0; exact DataW.trod_lt m _ _ _ hm
  obtain ⟨A0, n0, c0, rfl⟩ := okWide_slice Try.underlying31 (hval 0 31 v0 rfl rfl)
  obtain ⟨l0, g0, z0, y0⟩ : ∃ l, EdsV (fun g => g < W.heap.size) W (.slice A0 n0 c0) l ∧ 8 * l.length ≤ Rows.uptoBulk d0 ∧ ∀ e ∈ l, 2 * e.node.2.size ≤ Rows.uptoBulk d0 ∧ 2 * e.old.2.size ≤ Rows.uptoBulk d0 := by obtain ⟨fu, hfu⟩ := h0; exact open_edits hfu
  have fw0 : FewN l0 := ⟨by omega, fun e he => by have h9 := y0 e he; unfold Few9; omega⟩
  have k1 := h1
  have lt1 : ∀ x ∈ p1, x.block < W.heap.size := by obtain ⟨m, hm⟩ := k1; exact DataW.trod_lt m _ _ _ hm
  obtain ⟨A1, n1, c1, rfl⟩ := okWide_slice Try.underlying31 (hval 1 31 v1 rfl rfl)
  obtain ⟨l1, g1, z1, y1⟩ : ∃ l, EdsV (fun g => g < W.heap.size) W (.slice A1 n1 c1) l ∧ 8 * l.length ≤ Rows.uptoBulk d1 ∧ ∀ e ∈ l, 2 * e.node.2.size ≤ Rows.uptoBulk d1 ∧ 2 * e.old.2.size ≤ Rows.uptoBulk d1 := by obtain ⟨fu, hfu⟩ := h1; exact open_edits hfu
  have fw1 : FewN l1 := ⟨by omega, fun e he => by have h9 := y1 e he; unfold Few9; omega⟩
  have k2 := h2
  have lt2 : ∀ x ∈ p2, x.block < W.heap.size := by obtain ⟨m, hm⟩ := k2; exact DataW.trod_lt m _ _ _ hm
  obtain ⟨A2, n2, c2, rfl⟩ := okWide_slice Try.underlying33 (hval 2 33 v2 rfl rfl)
  obtain ⟨l2, g2, z2⟩ : ∃ l, WayV W.heap.size W (.slice A2 n2 c2) l ∧ l.length ≤ Rows.uptoBulk d2 := by obtain ⟨fu, hfu⟩ := h2; exact open_way hfu
  have e2 : n2 = l2.length := by obtain ⟨_, _, e, _⟩ := g2; injection e
  clear hA0 hval0
  have HA := awake16 (difC W)
  refine (diffRows_walk l0 l1 l2 (.slice A0 n0 c0) (.slice A1 n1 c1) (.slice A2 n2 c2) W g0 g1 g2 fw0 fw1 (difC W) HA).mono fun e W' ⟨he, bel⟩ => ?_
  subst he
  exact ⟨_, rfl, _, _, _, [], _, [], hW', trodAll_mk1 (shut_bool Try.underlying4 _), (trodAll_cons_mk (Below.trod laidOut (by kernel_rfl) (of_decide_eq_true (by kernel_rfl)) k0 bel lt0) (trodAll_cons_mk (Below.trod laidOut (by kernel_rfl) (of_decide_eq_true (by kernel_rfl)) k1 bel lt1) (trodAll_cons_mk (Below.trod laidOut (by kernel_rfl) (of_decide_eq_true (by kernel_rfl)) k2 bel lt2) trodAll_mk0))), rfl, bel.frame _, fun h => by cases h⟩

theorem over : Rows.diffRowsUptoRow.holds Try.pinned (Rows.OpenSpec.upto Rows.diffRowsSpec) :=
  OpenClaim.holds_of_cond 4 Try.f4 rfl rfl rfl rfl rfl rfl rfl ⟨rfl, rfl, rfl, rfl, rfl⟩ rfl rfl rfl rfl rfl (by kernel_rfl) Try.func4 (by kernel_rfl)
    (of_decide_eq_true (by kernel_rfl)) (by unfold Func.isWrapper; first | (rw [if_pos (by decide +kernel)]; kernel_rfl) | (rw [if_neg (by decide +kernel)]; exact ⟨rfl, rfl⟩))
    (fun os started H enc _ F => lifted os started H enc F)

theorem proved : Rows.DiffRowsUptoSaid :=
  over
#print axioms proved
end Go.Proofs.Ythdhchhpjoghlaa.diffRows
