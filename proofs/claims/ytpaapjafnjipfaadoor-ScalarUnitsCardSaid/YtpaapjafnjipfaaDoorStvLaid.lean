/-
  From a row's list of package-level variables to what they hold; a world for the witness; what package scalar answers in whatever world they hold it. No condition but those of each theorem.
-/
import Derived.Test.YtpaapjafnjipfaaDoorTie
import Derived.Test.YtpaapjafnjipfaaDoorCards
import Derived.Test.YtpaapjafnjipfaaDoorStvShR
import Derived.Test.YtpaapjafnjipfaaDoorStvIdt
import Derived.ProofKit
import Derived.Deep.DeepHandedRow
import Derived.Lib.LaidTab
import Derived.Stop.LaidErr
import Derived.Lay
import Derived.OpenShut
import Derived.MakeChecks
namespace Go.Proofs.YtpaapjafnjipfaaDoor
open Go.RowKit
set_option linter.unusedSimpArgs false

/-- PACKAGE SCALAR ANSWERS AS IT IS TO, where the listed variables hold what their text lays. -/
theorem sclC (W0 : World) (h : Tab6 W0) : SclC W0 where
  uint := fun s w hs hb => uint_any s (by omega) w (h.below hb)
  shows := fun x w hx hb => shows_any x hx w (h.below hb)
  rate := fun s w hs hb => rate_any s (by omega) w (h.below hb)
  shrate := fun x w hx hb => shrate_any x hx w (h.below hb)
  ident := fun s w hs hb => (ident_any s (by omega) w).mono fun r w' e => ⟨e.1, by rw [← e.2]; exact Below.refl _ _⟩

theorem gUnits : Tryd.prog.globalNamed "tollbar/scalar.units" = some 0 := by kernel_rfl
theorem gUnitsType : (Tryd.prog.globals[0]?).map (·.type) = some 38 := by kernel_rfl
theorem gPowType : (Tryd.prog.globals[3]?).map (·.type) = some 66 := by kernel_rfl
theorem gSynType : (Tryd.prog.globals[1]?).map (·.type) = some 33 := by kernel_rfl
theorem gRngType : (Tryd.prog.globals[2]?).map (·.type) = some 33 := by kernel_rfl
theorem cellsU : Tryd.prog.cellsOf 23 = 1 := by kernel_rfl
theorem cellsS : Tryd.prog.cellsOf 9 = 1 := by kernel_rfl
theorem cellsUnit : Tryd.prog.cellsOf 37 = 2 := by kernel_rfl
theorem cellsUnits : Tryd.prog.cellsOf 38 = 4 := by kernel_rfl
theorem cellsPow : Tryd.prog.cellsOf 66 = 20 := by kernel_rfl
theorem cellsErr : Tryd.prog.cellsOf 74 = 1 := by kernel_rfl
theorem starErr : "*" ++ "errors.errorString" = "*errors.errorString" := by decide
theorem rowErr (u : TypeId) (h : Tryd.prog.typeName? 3 u = some "*errors.errorString") : u = 72 :=
  typeName_ptr_named (nm := "errors.errorString") (by rw [starErr]; kernel_rfl) (by kernel_rfl) (by decide) u (by rw [starErr]; exact h)

/-- A struct of a number and a text, by what it reads as. -/
theorem unit_cells {H : Type} {enc : TypeId × Value → H} {w : World} {base : Nat} {sp : Nat → Bool} {held : Bool} {fuel : Nat} {a b : Value} {n : Int} {l : List UInt8} {p : List MemPlace}
    (h : DataW.trod enc Tryd.prog w base sp held fuel 37 [a, b] = some (.agg [.lit (.int .u64 n), .lit (.string l)], p)) : a = .int .u64 n ∧ b = .string ⟨l.toArray⟩ := by
  obtain ⟨xs, m, rfl, hx, -, hn, ht⟩ := DataW.trod_struct Tryd.underlying37 h
  have h0 : DataW.trod enc Tryd.prog w base sp held m 23 (([a, b].drop 0).take (Tryd.prog.cellsOf 23)) = xs[0]? := ht 0 _ rfl
  have h1 : DataW.trod enc Tryd.prog w base sp held m 9 (([a, b].drop 1).take (Tryd.prog.cellsOf 9)) = xs[1]? := ht 1 _ rfl
  obtain ⟨y0, y1, rfl⟩ : ∃ y0 y1, xs = [y0, y1] := by
    match xs, hn with
    | [y0, y1], _ => exact ⟨y0, y1, rfl⟩
  rw [cellsU] at h0
  rw [cellsS] at h1
  have h0' : DataW.trod enc Tryd.prog w base sp held m 23 [a] = some y0 := h0
  have h1' : DataW.trod enc Tryd.prog w base sp held m 9 [b] = some y1 := h1
  obtain ⟨z, ha, rfl, -⟩ := DataW.trod_int Tryd.underlying23 h0'
  obtain ⟨s, hb, rfl, -⟩ := DataW.trod_string Tryd.underlying9 h1'
  have e := congrArg Prod.fst hx
  simp only [List.map_cons, List.map_nil, DataW.agg.injEq, List.cons.injEq, DataW.lit.injEq, Lit.int.injEq, Lit.string.injEq, true_and, and_true] at e
  obtain ⟨rfl, rfl⟩ := e
  simp only [List.cons.injEq, and_true] at ha hb
  refine ⟨ha, hb.trans ?_⟩
  congr 1
theorem units_cells {H : Type} {enc : TypeId × Value → H} {w : World} {base : Nat} {sp : Nat → Bool} {held : Bool} {fuel : Nat} {cs : List Value} {p : List MemPlace}
    (h : DataW.trod enc Tryd.prog w base sp held fuel 38 cs = some (.agg [.agg [.lit (.int .u64 1000000), .lit (.string [109])], .agg [.lit (.int .u64 1000), .lit (.string [107])]], p)) :
    cs = [.int .u64 1000000, .string ⟨#[109]⟩, .int .u64 1000, .string ⟨#[107]⟩] := by
  obtain ⟨xs, m, rfl, hx, hl, hn, ht⟩ := DataW.trod_array Tryd.underlying38 h
  rw [cellsUnits] at hl
  obtain ⟨a, b, c, d, rfl⟩ : ∃ a b c d, cs = [a, b, c, d] := by
    match cs, hl with
    | [a, b, c, d], _ => exact ⟨a, b, c, d, rfl⟩
  have h0 := ht 0 (by omega)
  have h1 := ht 1 (by omega)
  rw [cellsUnit] at h0 h1
  obtain ⟨⟨x0, p0⟩, ⟨x1, p1⟩, rfl⟩ : ∃ y0 y1, xs = [y0, y1] := by
    match xs, hn with
    | [y0, y1], _ => exact ⟨y0, y1, rfl⟩
  have e := congrArg Prod.fst hx
  simp only [List.map_cons, List.map_nil, DataW.agg.injEq, List.cons.injEq, and_true] at e
  obtain ⟨rfl, rfl⟩ := e
  have h0' : DataW.trod enc Tryd.prog w base sp held m 37 [a, b] = some (_, p0) := h0
  have h1' : DataW.trod enc Tryd.prog w base sp held m 37 [c, d] = some (_, p1) := h1
  obtain ⟨rfl, rfl⟩ := unit_cells h0'
  obtain ⟨rfl, rfl⟩ := unit_cells h1'
  rfl
def laidL : List (String × DataW Unit) := [("math/bits.deBruijn32tab", Rows.laid_math_bits_deBruijn32tab), ("math/bits.deBruijn64tab", Rows.laid_math_bits_deBruijn64tab), ("internal/strconv.uint64pow10", Rows.laid_internal_strconv_uint64pow10), ("strconv.ErrRange", Rows.laid_strconv_ErrRange), ("strconv.ErrSyntax", Rows.laid_strconv_ErrSyntax), ("tollbar/scalar.units", Rows.laid_tollbar_scalar_units)]
theorem powIs : Rows.laid_internal_strconv_uint64pow10 (H := Unit) = Lib.tabData .u64 Lib.pow10Tab := by kernel_rfl
/-- WHAT THE ROWS' LIST GIVES. -/
theorem table {W : World} (h : laidMetH Tryd.prog laidL W) : Tab6 W := by
  rw [MakeChecks.laidMetH_plain _ _ _ (by kernel_rfl)] at h
  unfold laidL at h
  rw [powIs] at h
  have h3 := h.tail.tail
  have h4 := h3.tail
  have h5 := h4.tail
  have h6 := h5.tail
  have hP := Lib.tabIs_of_head (rest := _) gPow gPowType Tryd.underlying66 Tryd.underlying23 cellsU cellsPow h3
  obtain ⟨a0, s0, hr, -, -, -⟩ := laid_sentinel h4 gRng gRngType Tryd.underlying33 rowErr Tryd.underlying72 Tryd.underlying74 rfl rfl Tryd.underlying9 cellsErr cellsS
  obtain ⟨a1, s1, hs, -, -, -⟩ := laid_sentinel h5 gSyn gSynType Tryd.underlying33 rowErr Tryd.underlying72 Tryd.underlying74 rfl rfl Tryd.underlying9 cellsErr cellsS
  obtain ⟨ps, ⟨g', t', cs, fuel, p, q, hg', ht', hvar, hd, _, _⟩, _⟩ := h6
  obtain rfl := Option.some.inj (gUnits.symm.trans hg')
  obtain rfl := Option.some.inj (gUnitsType.symm.trans ht')
  have hcs := units_cells hd
  obtain ⟨cs⟩ := cs
  obtain rfl : cs = _ := hcs
  have hc := fun j => World.var?_cell gUnits hvar j
  exact { pow := hP, syn := ⟨_, _, hs⟩, rng := ⟨_, _, hr⟩, u0 := by have := hc 0; simpa using this, u1 := by have := hc 1; simpa using this, u2 := by have := hc 2; simpa using this, u3 := by have := hc 3; simpa using this }

/-- The settled world, the listed variables holding what their initialisers lay. -/
noncomputable def laidWorld (os : Os) : World := World.laidAll Tryd.prog os laidL
theorem laid_os (os : Os) : (laidWorld os).os = os := World.laidAll_os _ _ _
theorem laid_all (os : Os) (args : Array Value) : laidMet Tryd.prog laidL ((laidWorld os).forCall (fun _ _ => 0) ⟨#[], args, []⟩).memory :=
  laidMet_laidAll args (by kernel_rfl) (by kernel_rfl)

end Go.Proofs.YtpaapjafnjipfaaDoor
