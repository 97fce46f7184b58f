/-
  Where records end; slices of the call's own that lie apart. No condition but those of each theorem.
-/
import Derived.Test.YtepcaaejadeklaaDoorLaw04A
import Derived.Test.YtepcaaejadeklaaDoorOctI
namespace Go.Proofs.YtepcaaejadeklaaDoor
open Go.RowKit
set_option linter.unusedSimpArgs false

theorem Tryd.infoN : (Tryd.prog.info? 3).map (fun i => (i.zero, i.size, i.bytes)) = some (some (.int .i64 0), 1, 8) := by kernel_rfl
theorem zeroN : (Value.int .i64 0).cells.size = 1 := by rfl

/-- Where the first j records end. -/
def endsV (ls : List (List UInt8)) (j : Nat) : List Value := (List.range j).map fun i => .int .i64 ((frms (ls.take (i + 1))).length : Int)
theorem endsV_length (ls : List (List UInt8)) (j : Nat) : (endsV ls j).length = j := by simp [endsV]
theorem endsV_succ (ls : List (List UInt8)) (j : Nat) : endsV ls (j + 1) = endsV ls j ++ [.int .i64 ((frms (ls.take (j + 1))).length : Int)] := by simp [endsV, List.range_succ]
theorem endsV_at (ls : List (List UInt8)) {j i : Nat} (h : i < j) : (endsV ls j)[i]? = some (.int .i64 ((frms (ls.take (i + 1))).length : Int)) := by simp [endsV, h]
theorem frms_len (ls : List (List UInt8)) (h : ∀ x ∈ ls, x.length ≤ 300) : (frms ls).length ≤ 306 * ls.length := by
  induction ls with
  | nil => simp [frms]
  | cons x l ih =>
    have h1 := frm_len (l := x) (by have := h x (by simp); omega)
    have h2 := ih (fun y hy => h y (by simp [hy]))
    have h3 := h x (by simp)
    rw [frms_cons, List.length_append, List.length_cons]
    omega
theorem RowB.cap {w : World} {d : Nat} {A : Option Addr} {n c : Nat} {ls : List (List UInt8)} (h : RowB w d (.slice A n c) ls) : n ≤ c := by
  obtain ⟨xs, ⟨A', c', he, h1, _⟩, _⟩ := h
  injection he with e1 e2 e3
  omega
/-- Two slices of the call's own lie apart. -/
def Apart (u v : Value) : Prop := ∀ k, u.ownBlock = some k → v.ownBlock ≠ some k
theorem OwnV.grown {e : TypeId} {w w' : World} {base : Nat} {u v : Value} {xs : List Value} (h : OwnV e w base u xs) (hg : w.grownBy w' v.ownBlock) (ha : Apart u v) : OwnV e w' base u xs :=
  World.ownsRow.kept h hg (by
    cases hu : u.ownBlock with
    | none => simp
    | some k => simpa [hu] using (fun e : some k = v.ownBlock => ha k hu e.symm))
theorem Own.grown {w w' : World} {base : Nat} {u v : Value} {l : List UInt8} (h : Own w base u l) (hg : w.grownBy w' v.ownBlock) (ha : Apart u v) : Own w' base u l :=
  World.ownsRow.kept h hg (by
    cases hu : u.ownBlock with
    | none => simp
    | some k => simpa [hu] using (fun e : some k = v.ownBlock => ha k hu e.symm))
theorem Own.lt4 {w : World} {base : Nat} {v : Value} {l : List UInt8} (h : Own w base v l) : ∀ k, v.ownBlock = some k → base ≤ k ∧ k < w.heap.size := fun k hk => World.ownsRow.lt h k hk

end Go.Proofs.YtepcaaejadeklaaDoor
