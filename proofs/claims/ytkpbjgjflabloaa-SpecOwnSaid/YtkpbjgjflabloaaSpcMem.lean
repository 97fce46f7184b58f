/-
  Things of the schema in memory, and what package spec is to answer, as propositions. No condition but those of each theorem.
-/
import Derived.Test.YtkpbjgjflabloaaSpcNum
namespace Go.Proofs.Ytkpbjgjflabloaa
open Go.RowKit
set_option linter.unusedSimpArgs false

/-- The cells of a thing of the schema, but for the slice of its kids. -/
def SpcD : RdOf SpD := fun w N cs a => ∃ nv kv d, cs = [.string (txt a.name), .int .i64 (a.kind : Int), .int .i64 (a.typ : Int), .int .u64 (a.low : Int), .int .u64 (a.high : Int), nv, .bool a.must, .int .i64 (a.most : Int), kv] ∧
  Vals w d nv (txts a.names) ∧ (0 < a.names.length → N d) ∧ kv.oneCell' = true
theorem txts_len (l : List (List UInt8)) : (txts l).length = l.length := by simp [txts]
theorem Vals.heap {w w' : World} {d : Nat} {v : Value} {xs : List Value} (h : Vals w d v xs) (hk : 0 < xs.length → w'.heap[d]? = w.heap[d]?) : Vals w' d v xs := by
  obtain ⟨A, c, rfl, h1, h2⟩ := h
  refine ⟨A, c, rfl, h1, fun h0 => ?_⟩
  obtain ⟨hlt, off, rfl, hc⟩ := h2 h0
  have hb := hk h0
  refine ⟨?_, off, rfl, fun j u hj => (World.cell?_of_block (w := w) (a := ⟨d, off + j, none⟩) hb).trans (hc j u hj)⟩
  rw [Array.getElem?_eq_getElem hlt] at hb
  exact (Array.getElem?_eq_some_iff.1 hb).1
theorem stay_spc : StayD SpcD := by
  intro w w' N N' cs a hk hN ⟨nv, kv, d, h1, h2, h3, h4⟩
  refine ⟨nv, kv, d, h1, h2.heap (fun h0 => hk d (h3 ?_)), fun h0 => hN d (h3 h0), h4⟩
  rwa [txts_len] at h0
theorem one_spc : OneD SpcD := by
  intro w N cs a ⟨nv, kv, d, h1, ⟨A, c, h2, _⟩, _, h4⟩ u hu
  subst h1 h2
  simp only [List.mem_cons, List.not_mem_nil, or_false] at hu
  rcases hu with rfl | rfl | rfl | rfl | rfl | rfl | rfl | rfl | rfl <;> first | rfl | exact h4
/-- The cells cs are a thing of the schema, with its kids. -/
abbrev SpN (w : World) (S N : Nat → Prop) (cs : List Value) (x : Sp) : Prop := FrN SpcD 9 8 w S N cs x.1 x.2
theorem SpN.shape {w : World} {S N : Nat → Prop} {cs : List Value} {x : Sp} (h : SpN w S N cs x) :
    ∃ B m A c d, cs = [.string (txt x.1.name), .int .i64 (x.1.kind : Int), .int .i64 (x.1.typ : Int), .int .u64 (x.1.low : Int), .int .u64 (x.1.high : Int), .slice B x.1.names.length m, .bool x.1.must, .int .i64 (x.1.most : Int), .slice A x.2.len c] ∧
      Vals w d (.slice B x.1.names.length m) (txts x.1.names) ∧ (0 < x.1.names.length → N d) ∧ FrV SpcD 9 8 w S N (.slice A x.2.len c) x.2 := by
  obtain ⟨_, ⟨nv, kv, d, rfl, h2, h3, _⟩, v, h5, h6⟩ := h
  obtain ⟨A, c, rfl⟩ := h6.shape
  simp at h5
  subst h5
  obtain ⟨B, m, e⟩ := h2.shape
  rw [txts_len] at e
  subst e
  exact ⟨B, m, A, c, d, rfl, h2, h3, h6⟩
theorem SpN.make {w : World} {S N : Nat → Prop} {a : SpD} {k : SpF} {nv kv : Value} {d : Nat} (h1 : Vals w d nv (txts a.names)) (h2 : 0 < a.names.length → N d) (h3 : FrV SpcD 9 8 w S N kv k) :
    SpN w S N [.string (txt a.name), .int .i64 (a.kind : Int), .int .i64 (a.typ : Int), .int .u64 (a.low : Int), .int .u64 (a.high : Int), nv, .bool a.must, .int .i64 (a.most : Int), kv] (a, k) := by
  refine ⟨rfl, ⟨nv, kv, d, rfl, h1, h2, ?_⟩, kv, rfl, h3⟩
  obtain ⟨A, c, rfl⟩ := h3.shape
  rfl
/-- A block of the call's own, that may be written. -/
def Fresh (base : Nat) (w : World) (g : Nat) : Prop := base ≤ g ∧ ∃ cs t, w.heap[g]? = some (.cells cs t (0, 0))
theorem Fresh.lt {base : Nat} {w : World} {g : Nat} (h : Fresh base w g) : g < w.heap.size := by
  obtain ⟨_, cs, t, h⟩ := h
  exact (Array.getElem?_eq_some_iff.1 h).1
theorem Fresh.below {base : Nat} {w w' : World} {g : Nat} (h : Fresh base w g) (hb : Below w.heap.size w w') : Fresh base w' g := by
  have hl := h.lt
  obtain ⟨h0, cs, t, h⟩ := h
  exact ⟨h0, cs, t, (hb.block g hl).trans h⟩
/-- A thing in new memory: its kids' blocks apart from its names'. -/
def NewSp (base : Nat) (w : World) (cs : List Value) (x : Sp) : Prop := ∃ S N, (∀ g, S g → Fresh base w g) ∧ (∀ g, N g → Fresh base w g ∧ ¬ S g) ∧ SpN w S N cs x
/-- What tells a thing and an error leaves. -/
def SpP (x : Sp × Nat) (w : World) (r : Ending) (w' : World) : Prop := ∃ cs, r = .returned (.tuple #[.agg cs.toArray, .int .i64 (x.2 : Int)]) ∧ NewSp w.heap.size w' cs x.1 ∧ Below w.heap.size w w'
def AnsP (v : Value) (w : World) (r : Ending) (w' : World) : Prop := r = .returned v ∧ Below w.heap.size w w'

def RootC (W0 : World) : Prop := ∀ (v : Int) (w : World), -9223372036854775808 ≤ v → v ≤ 9223372036854775807 → Below W0.heap.size W0 w → Calls Try.prog 8 #[.int .i64 v] w (SpP (rootX v) w)
def AtC (W0 : World) : Prop := ∀ (v : Int) (l : List (List UInt8)) (d : Nat) (nv : Value) (w : World), -9223372036854775808 ≤ v → v ≤ 9223372036854775807 → l.length ≤ 1000000 → Vals w d nv (txts l) → Below W0.heap.size W0 w →
  Calls Try.prog 10 #[.int .i64 v, nv] w (SpP (atX v l) w)
def FindC (W0 : World) : Prop := ∀ (n : List UInt8) (S N : Nat → Prop) (cs : List Value) (x : Sp) (w : World), SpN w S N cs x → (∀ g, S g → g < w.heap.size) → x.2.len ≤ 1000000 → Below W0.heap.size W0 w →
  Calls Try.prog 14 #[.agg cs.toArray, .string (txt n)] w (AnsP (.int .i64 (findI n x.2)) w)
def TagC (W0 : World) : Prop := ∀ (i : Int) (S N : Nat → Prop) (cs : List Value) (x : Sp) (w : World), -9223372036854775808 ≤ i → i ≤ 9223372036854775807 → SpN w S N cs x → (∀ g, S g → g < w.heap.size) → x.2.len ≤ 1000000 → Below W0.heap.size W0 w →
  Calls Try.prog 18 #[.agg cs.toArray, .int .i64 i] w (AnsP (.int .u64 (tagX x.2 i : Int)) w)
def KidC (W0 : World) : Prop := ∀ (t : Nat) (S N : Nat → Prop) (cs : List Value) (x : Sp) (w : World), t < 18446744073709551616 → SpN w S N cs x → (∀ g, S g → g < w.heap.size) → x.2.len ≤ 1000000 → Below W0.heap.size W0 w →
  Calls Try.prog 16 #[.agg cs.toArray, .int .u64 (t : Int)] w (AnsP (.int .i64 (kidX x.2 t)) w)
/-- PACKAGE SPEC ANSWERS AS IT IS TO, in every world behind W0. -/
structure SpcC (W0 : World) : Prop where
  root : RootC W0
  at_ : AtC W0
  find : FindC W0
  tag : TagC W0
  kid : KidC W0

end Go.Proofs.Ytkpbjgjflabloaa
