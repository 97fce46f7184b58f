/-
  What package tlv's functions are to answer, as one proposition: what the laws of layer 3 stand on. No program walked.
-/
import Derived.Test.YtdpaijechogmlaaTlvGot
import Derived.Test.YtdpaijechogmlaaTlvSame
import Derived.Test.YtdpaijechogmlaaTlvCheck
import Derived.Test.YtdpaijechogmlaaOctH
namespace Go.Proofs.Ytdpaijechogmlaa
open Go.RowKit

def CheckC : Prop := ∀ (f : Fo) (w : World) (v : Value), FV DataI w (Lo w) v f → f.sz ≤ 1099511627776 → Calls Try.prog 13 #[v] w (fun r w' => r = .returned (.bool f.ok) ∧ Below w.heap.size w w')
def SizeC : Prop := ∀ (f : Fo) (w : World) (v : Value), FV DataI w (Lo w) v f → f.sz ≤ 1099511627776 → f.wt ≤ 300 → Calls Try.prog 15 #[v] w (fun r w' => r = .returned (.int .i64 (f.all.length : Int)) ∧ Below w.heap.size w w')
/-- What Put leaves. -/
def PutP (f : Fo) (w : World) (r : Ending) (w' : World) : Prop :=
  ∃ v, r = .returned (.tuple #[v, .int .i64 (if f.ok = true then 0 else 1)]) ∧ Own w' w.heap.size v (if f.ok = true then f.all else []) ∧ Below w.heap.size w w'
def PutC : Prop := ∀ (f : Fo) (w : World) (v : Value), FV DataI w (Lo w) v f → f.sz ≤ 1099511627776 → Calls Try.prog 11 #[v] w (PutP f w)
/-- What Get leaves. -/
def GetP (x : Fo × Int × Nat) (w : World) (r : Ending) (w' : World) : Prop :=
  ∃ v, r = .returned (.tuple #[v, .int .i64 x.2.1, .int .i64 (x.2.2 : Int)]) ∧ FV DataI w' (Mine w.heap.size w') v x.1 ∧ Below w.heap.size w w'
def GetC : Prop := ∀ (l : List UInt8) (w : World) (d : Nat) (v : Value), Rd w d v l → l.length ≤ 100000 → Calls Try.prog 17 #[v] w (GetP (gotOf l) w)
/-- All of it. -/
structure TlvC : Prop where
  check : CheckC
  size : SizeC
  put : PutC
  get : GetC

section
variable {D : World → (Nat → Prop) → Value → List UInt8 → Prop} {w w' : World} {S : Nat → Prop}
theorem FV.lo {base : Nat} {v : Value} {f : Fo} (hD : Stays D) (h : FV D w (Mine base w) v f) : FV D w (Lo w) v f := h.kept hD (fun _ _ => rfl) (fun _ hg => hg.2)
/-- One item, written out. -/
theorem FV.one {b : Nat} {e : TypeId} {t : Nat} {d : List UInt8} {k : Fo} {dv kv : Value} (hb : Blk w b e #[.int .u64 (t : Int), dv, kv]) (hS : S b) (ht : t < 18446744073709551616) (hd : D w S dv d) (hk : FV D w S kv k) :
    FV D w S (.slice (some ⟨b, 0, none⟩) 1 1) (.cons t d k .nil) := by
  obtain ⟨A, c, rfl, h1, h2⟩ := hk
  refine ⟨_, 1, rfl, Nat.le_refl _, fun _ => ⟨b, 0, rfl, hS, ?_, ht, ⟨dv, ?_, hd⟩, ⟨A, c, ?_, h1, h2⟩, trivial⟩⟩
  · rw [hb.cell]; rfl
  · rw [hb.cell]; rfl
  · rw [hb.cell]; rfl
theorem FV.item {v : Value} {t : Nat} {d : List UInt8} {k : Fo} (h : FV D w S v (.cons t d k .nil)) :
    ∃ b o c kv, v = .slice (some ⟨b, o, none⟩) 1 c ∧ 1 ≤ c ∧ S b ∧ w.cell? ⟨b, o + 2, none⟩ = some kv ∧ FV D w S kv k := by
  obtain ⟨A, c, rfl, h1, h2⟩ := h
  obtain ⟨b, o, rfl, h3, h4⟩ := h2 (by simp [Fo.len])
  obtain ⟨_, _, _, ⟨A', c', h5, h6, h7⟩, _⟩ := h4
  exact ⟨b, o, c, _, rfl, h1, h3, h5, A', c', rfl, h6, h7⟩
end

/-- The document's example. -/
def exF : Fo := .cons 1 [] (.cons 2 [97] .nil .nil) .nil
/-- An odd item with data. -/
def exG : Fo := .cons 1 [97] .nil .nil
theorem exF_ok : exF.ok = true := by decide
theorem exG_ok : exG.ok = false := by decide
theorem exF_all : exF.all = [1, 3, 2, 1, 97] := by decide
theorem ex_got : gotOf [1, 3, 2, 1, 97] = (exF, 0, 0) := by decide
theorem ex_short : gotOf [2, 5, 1] = (.nil, 10, 2) := by decide

end Go.Proofs.Ytdpaijechogmlaa
