/-
  A region that draws its order: what is kept through it (S) may be made more on the way. No program.
-/
import Derived.Test.YtkpbjgjflabloaaRows
import Derived.Deep.RegionHeld3
namespace Go.Proofs.Ytkpbjgjflabloaa

theorem held_more {P : Program} {md : Region.Mode} {ops : Array Oper} {Q : Exit → Act → World → Prop} {S S' : World → Prop} (h : ∀ w, S' w → S w) :
    ∀ (fuel : Nat) (listed : Array Bool) (a : Act) (w : World), wpAnyH P md ops Q S' fuel listed a w → wpAnyH P md ops Q S fuel listed a w
  | 0, _, _, _, hw => hw
  | fuel + 1, _, _, _, hw => ⟨hw.1, fun i hi => wpOp_mono (fun _ _ hq => ⟨h _ hq.1, held_more h fuel _ _ _ hq.2⟩) (hw.2 i hi)⟩

/-- A post that says of a panic what hangs on the chain and the world alone. -/
def PanicAt (R : List PanicEntry → World → Prop) (Q : Exit → Act → World → Prop) : Exit → Act → World → Prop
  | .panic c, a, w => a.defers = [] ∧ R c w
  | e, a, w => Q e a w
theorem panic_put {R : List PanicEntry → World → Prop} {Q : Exit → Act → World → Prop} {c : List PanicEntry} {a : Act} {d : Option Nat} {v : Value} {w : World} (h : PanicAt R Q (.panic c) (a.put d v) w) : PanicAt R Q (.panic c) a w := by
  cases d with
  | none => exact h
  | some n => exact h
theorem wp_region_panicAt {P : Program} {id : Nat} {ops : Array Oper} {b : Bool} {Q : Exit → Act → World → Prop} {a : Act} {w : World} (R : List PanicEntry → World → Prop) (hR : ∀ c a w, a.defers = [] → R c w → Q (.panic c) a w)
    (h : (Code.region id ops b).wp P (PanicAt R Q) a w) : (Code.region id ops b).wp P Q a w :=
  Code.wp_mono (fun e a w hq => by cases e <;> first | exact hq | exact hR _ _ _ hq.1 hq.2) h

end Go.Proofs.Ytkpbjgjflabloaa
