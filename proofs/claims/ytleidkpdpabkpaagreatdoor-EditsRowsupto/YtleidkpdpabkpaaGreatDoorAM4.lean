/- TlvMem Drawn TlvMany TlvOwn TlvPlain VarRef VarRefB -/
import Derived.Test.YtleidkpdpabkpaaGreatDoorAM3
import Derived.Deep.RegionHeld3
import Derived.Deep.DrawnRows
set_option linter.unusedSimpArgs false
set_option linter.unusedVariables false
set_option maxRecDepth 100000
set_option maxHeartbeats 8000000
namespace Go.Proofs.YtleidkpdpabkpaaGreatDoor
open Go.RowKit
namespace Fo
def drop : Nat → Fo → Fo
 | 0, f => f
 | _ + 1, nil => nil
 | n + 1, cons _ _ _ r => drop n r
def take : Nat → Fo → Fo
 | 0, _ => nil
 | _ + 1, nil => nil
 | n + 1, cons t d k r => cons t d k (take n r)
theorem take_app_drop (n : Nat) : ∀ f : Fo, (take n f).app (drop n f) = f := by
 induction n with
 | zero => intro f; rfl
 | succ n ih =>
  intro f
  cases f with
  | nil => rfl
  | cons t d k r => simp only [take, drop, app, ih]
theorem take_all (f : Fo) : take f.len f = f := by
 induction f with
 | nil => rfl
 | cons t d k r _ ih => simp only [len, take, ih]
theorem len_drop (n : Nat) : ∀ f : Fo, (drop n f).len = f.len - n := by
 induction n with
 | zero => intro f; rfl
 | succ n ih =>
  intro f
  cases f with
  | nil => simp [drop, len]
  | cons t d k r => simp only [drop, len, ih]; omega
theorem len_take (n : Nat) : ∀ f : Fo, n ≤ f.len → (take n f).len = n := by
 induction n with
 | zero => intro f _; rfl
 | succ n ih =>
  intro f h
  cases f with
  | nil => simp [len] at h
  | cons t d k r => simp only [take, len]; rw [ih r (by simp only [len] at h; omega)]
theorem drop_cons {n : Nat} : ∀ {f : Fo}, n < f.len → ∃ t d k, drop n f = cons t d k (drop (n + 1) f) ∧ take (n + 1) f = (take n f).app (cons t d k nil) := by
 induction n with
 | zero =>
  intro f h
  cases f with
  | nil => simp [len] at h
  | cons t d k r => exact ⟨t, d, k, rfl, rfl⟩
 | succ n ih =>
  intro f h
  cases f with
  | nil => simp [len] at h
  | cons t d k r =>
   obtain ⟨t', d', k', h1, h2⟩ := ih (f := r) (by simp only [len] at h; omega)
   refine ⟨t', d', k', h1, ?_⟩
   show cons t d k (take (n + 1) r) = cons t d k ((take n r).app _)
   rw [h2]
def kidsAll (P : Fo → Prop) : Fo → Prop
 | nil => True
 | cons _ _ k r => P k ∧ kidsAll P r
theorem kidsAll_drop {P : Fo → Prop} (n : Nat) : ∀ {f : Fo}, kidsAll P f → kidsAll P (drop n f) := by
 induction n with
 | zero => intro f h; exact h
 | succ n ih =>
  intro f h
  cases f with
  | nil => exact h
  | cons t d k r => exact ih h.2
theorem byKids {P : Fo → Prop} (h : ∀ f, kidsAll P f → P f) (f : Fo) : P f := by
 have both : ∀ f, P f ∧ kidsAll P f := by
  intro f
  induction f with
  | nil => exact ⟨h _ trivial, trivial⟩
  | cons t d k r ihk ihr => exact ⟨h _ ⟨ihk.1, ihr.2⟩, ⟨ihk.1, ihr.2⟩⟩
 exact (both f).1
end Fo
def FAt (D : World → (Nat → Prop) → Value → List UInt8 → Prop) (w : World) (S : Nat → Prop) : Fo → Nat → Nat → Prop
 | .nil, _, _ => True
 | .cons t d k r, b, o => w.cell? ⟨b, o, none⟩ = some (.int .u64 (t : Int)) ∧ t < 18446744073709551616 ∧ (∃ v, w.cell? ⟨b, o + 1, none⟩ = some v ∧ D w S v d) ∧
   (∃ A c, w.cell? ⟨b, o + 2, none⟩ = some (.slice A k.len c) ∧ k.len ≤ c ∧ (0 < k.len → ∃ b' o', A = some ⟨b', o', none⟩ ∧ S b' ∧ FAt D w S k b' o')) ∧ FAt D w S r b (o + 3)
def FV (D : World → (Nat → Prop) → Value → List UInt8 → Prop) (w : World) (S : Nat → Prop) (v : Value) (f : Fo) : Prop :=
 ∃ A c, v = .slice A f.len c ∧ f.len ≤ c ∧ (0 < f.len → ∃ b o, A = some ⟨b, o, none⟩ ∧ S b ∧ FAt D w S f b o)
def DataI (w : World) (S : Nat → Prop) (v : Value) (d : List UInt8) : Prop := ∃ db, Rd w db v d ∧ (0 < d.length → S db)
def DataR (_ : World) (_ : Nat → Prop) (v : Value) (d : List UInt8) : Prop := v = .string (txt d)
def Stays (D : World → (Nat → Prop) → Value → List UInt8 → Prop) : Prop :=
 ∀ (w w' : World) (S S' : Nat → Prop) v d, (∀ g, S g → w'.heap[g]? = w.heap[g]?) → (∀ g, S g → S' g) → D w S v d → D w' S' v d
theorem stays_I : Stays DataI := fun w w' S S' v d hk hS ⟨db, hr, hs⟩ => by
 by_cases h0 : 0 < d.length
 ·exact ⟨db, hr.heap (hk db (hs h0)), fun h => hS _ (hs h)⟩
 ·have hd : d = [] := List.eq_nil_of_length_eq_zero (by omega)
  subst hd
  obtain ⟨A, c, rfl, h1, h2, _⟩ := hr
  exact ⟨db, ⟨A, c, rfl, h1, h2, fun h => absurd h (by simp)⟩, fun h => absurd h (by simp)⟩
theorem stays_R : Stays DataR := fun _ _ _ _ _ _ _ _ h => h
section
variable {D : World → (Nat → Prop) → Value → List UInt8 → Prop} {w w' : World} {S S' : Nat → Prop}
theorem FAt.kept (hD : Stays D) (hk : ∀ g, S g → w'.heap[g]? = w.heap[g]?) (hS : ∀ g, S g → S' g) : ∀ {f : Fo} {b o : Nat}, S b → FAt D w S f b o → FAt D w' S' f b o := by
 intro f
 induction f with
 | nil => intro b o _ _; trivial
 | cons t d k r ihk ihr =>
  intro b o hb ⟨h1, ht, ⟨v, h2, h3⟩, ⟨A, c, h4, h5, h6⟩, h7⟩
  have hc : ∀ i, w'.cell? ⟨b, i, none⟩ = w.cell? ⟨b, i, none⟩ := fun i => World.cell?_of_block (w := w) (hk b hb)
  refine ⟨(hc _).trans h1, ht, ⟨v, (hc _).trans h2, hD _ _ _ _ _ _ hk hS h3⟩, ⟨A, c, (hc _).trans h4, h5, fun h0 => ?_⟩, ihr hb h7⟩
  obtain ⟨b', o', h8, h9, h10⟩ := h6 h0
  exact ⟨b', o', h8, hS _ h9, ihk h9 h10⟩
theorem FV.kept {v : Value} {f : Fo} (hD : Stays D) (h : FV D w S v f) (hk : ∀ g, S g → w'.heap[g]? = w.heap[g]?) (hS : ∀ g, S g → S' g) : FV D w' S' v f := by
 obtain ⟨A, c, rfl, h1, h2⟩ := h
 refine ⟨A, c, rfl, h1, fun h0 => ?_⟩
 obtain ⟨b, o, h3, h4, h5⟩ := h2 h0
 exact ⟨b, o, h3, hS _ h4, h5.kept hD hk hS h4⟩
theorem FV.nil (w : World) (S : Nat → Prop) : FV D w S (.slice none 0 0) .nil := ⟨none, 0, rfl, Nat.le_refl _, fun h => absurd h (by simp [Fo.len])⟩
theorem FAt.drop (n : Nat) : ∀ {f : Fo} {b o : Nat}, FAt D w S f b o → FAt D w S (Fo.drop n f) b (o + n * 3) := by
 induction n with
 | zero => intro f b o h; simpa [Fo.drop] using h
 | succ n ih =>
  intro f b o h
  cases f with
  | nil => trivial
  | cons t d k r =>
   have h7 := ih h.2.2.2.2
   have e : o + 3 + n * 3 = o + (n + 1) * 3 := by omega
   rw [e] at h7
   exact h7
theorem FV.at {v : Value} {f : Fo} (h : FV D w S v f) {n : Nat} (hn : n < f.len) :
  ∃ b o c t d k, v = .slice (some ⟨b, o, none⟩) f.len c ∧ f.len ≤ c ∧ S b ∧ Fo.drop n f = .cons t d k (Fo.drop (n + 1) f) ∧ Fo.take (n + 1) f = (Fo.take n f).app (.cons t d k .nil) ∧ t < 18446744073709551616 ∧
   w.cell? ⟨b, o + n * 3, none⟩ = some (.int .u64 (t : Int)) ∧ (∃ dv, w.cell? ⟨b, o + n * 3 + 1, none⟩ = some dv ∧ D w S dv d) ∧ (∃ kv, w.cell? ⟨b, o + n * 3 + 2, none⟩ = some kv ∧ FV D w S kv k) := by
 obtain ⟨A, c, rfl, h1, h2⟩ := h
 obtain ⟨b, o, rfl, h3, h4⟩ := h2 (by omega)
 obtain ⟨t, d, k, h5, h6⟩ := Fo.drop_cons hn
 have h7 := h4.drop n
 rw [h5] at h7
 obtain ⟨g1, gt, ⟨dv, g2, g3⟩, ⟨A', c', g4, g5, g6⟩, _⟩ := h7
 exact ⟨b, o, c, t, d, k, rfl, h1, h3, h5, h6, gt, g1, ⟨dv, g2, g3⟩, ⟨_, g4, A', c', rfl, g5, g6⟩⟩
theorem FV.shape {v : Value} {f : Fo} (h : FV D w S v f) : ∃ A c, v = .slice A f.len c := by
 obtain ⟨A, c, e, _⟩ := h
 exact ⟨A, c, e⟩
end
theorem held_more {P : Program} {md : Region.Mode} {ops : Array Oper} {Q : Exit → Act → World → Prop} {S S' : World → Prop} (h : ∀ w, S' w → S w) :
  ∀ (fuel : Nat) (listed : Array Bool) (a : Act) (w : World), wpAnyH P md ops Q S' fuel listed a w → wpAnyH P md ops Q S fuel listed a w
 | 0, _, _, _, hw => hw
 | fuel + 1, _, _, _, hw => ⟨hw.1, fun i hi => wpOp_mono (fun _ _ hq => ⟨h _ hq.1, held_more h fuel _ _ _ hq.2⟩) (hw.2 i hi)⟩
def PanicAt (R : List PanicEntry → World → Prop) (Q : Exit → Act → World → Prop) : Exit → Act → World → Prop
 | .panic c, a, w => a.defers = [] ∧ R c w
 | e, a, w => Q e a w
theorem panic_put {R : List PanicEntry → World → Prop} {Q : Exit → Act → World → Prop} {c : List PanicEntry} {a : Act} {d : Option Nat} {v : Value} {w : World} (h : PanicAt R Q (.panic c) (a.put d v) w) : PanicAt R Q (.panic c) a w := by
 cases d with
 | none => exact h
 | some n => exact h
theorem wp_region_panicAt {P : Program} {id : Nat} {ops : Array Oper} {b : Bool} {Q : Exit → Act → World → Prop} {a : Act} {w : World} (R : List PanicEntry → World → Prop) (hR : ∀ c a w, a.defers = [] → R c w → Q (.panic c) a w)
  (h : (Code.region id ops b).wp P (PanicAt R Q) a w) : (Code.region id ops b).wp P Q a w :=
 Code.wp_mono (fun e a w hq => by cases e <;> first | exact hq | exact hR _ _ _ hq.1 hq.2) h
theorem tkH {P : Program} {ops : Array Oper} {Q : Exit → Act → World → Prop} {md : Region.Mode} {S : World → Prop} (i : Nat) {oi : Oper} {v : Value} {fuel : Nat} {listed : Array Bool} {a a' : Act} {w : World} (hS : S w) (h : wpAnyH P md ops Q S fuel (listed.setIfInBounds i true) a' w)
 (hi : ops[i]? = some oi := by (simp only [layG]; rfl)) (h1 : Region.noSelect ops = true := by kernel_rfl) (h2 : Region.free md ops listed i = true := by kernel_rfl) (h3 : (Region.ready md ops listed).contains i = true := by kernel_rfl)
 (hw : Region.wanted oi (yielded ops a.tmps) = true := by rfl) (hy : ∀ w, S w → (execOp a.eval oi).run P w = .ok (.value v) w := by (intro w hSw; (go_simp <;> with_reducible rfl)))
 (ha : a.put oi.dst v = a' := by (first | (simp only [Act.put, layS]; rfl) | rfl)) (hQ : ∀ c a w, Q (.panic c) (a.put oi.dst v) w → Q (.panic c) a w := by exact fun _ _ _ h => h) : wpAnyH P md ops Q S (fuel + 1) listed a w := by
 subst ha; exact wpAnyH_take hi h1 h2 h3 hQ (Or.inl ⟨hw, hy⟩) hS h
theorem tkHo {P : Program} {ops : Array Oper} {Q : Exit → Act → World → Prop} {md : Region.Mode} {S : World → Prop} (i : Nat) {oi : Oper} {fuel : Nat} {listed : Array Bool} {a a' : Act} {w : World} (hS : S w) (h : wpAnyH P md ops Q S fuel (listed.setIfInBounds i true) a' w)
 (hi : ops[i]? = some oi := by (simp only [layG]; rfl)) (h1 : Region.noSelect ops = true := by kernel_rfl) (h2 : Region.free md ops listed i = true := by kernel_rfl) (h3 : (Region.ready md ops listed).contains i = true := by kernel_rfl)
 (hw : Region.wanted oi (yielded ops a.tmps) = false := by rfl) (ha : a.put oi.dst undef = a' := by (first | (simp only [Act.put, layS]; rfl) | rfl)) (hQ : ∀ c a w, Q (.panic c) (a.put oi.dst undef) w → Q (.panic c) a w := by exact fun _ _ _ h => h) : wpAnyH P md ops Q S (fuel + 1) listed a w := by
 subst ha; exact wpAnyH_take hi h1 h2 h3 hQ (Or.inr ⟨hw, rfl⟩) hS h
theorem rdC {P : Program} {ops : Array Oper} {Q : Exit → Act → World → Prop} {md : Region.Mode} {S : World → Prop} {fuel : Nat} {listed : Array Bool} {a : Act} {w : World} {i : Nat} {o : Oper} {rs : List Nat} (h : ∀ K' : Act → World → Prop, Shut (∀ a w, S w → (S w → wpAnyH P md ops Q S fuel (listed.setIfInBounds i true) a w) → K' a w) → Oper.wp P o a w K' Q) (hs : AllReadyH P md ops Q S fuel listed a w rs)
 (ho : ops[i]? = some o := by (simp only [layG]; rfl)) (hw : Region.wanted o (yielded ops a.tmps) = true := by rfl) : AllReadyH P md ops Q S fuel listed a w (i :: rs) := .cons ho (fun K hK => by rw [if_pos hw]; exact h K hK) hs
theorem rdy {P : Program} {ops : Array Oper} {Q : Exit → Act → World → Prop} {md : Region.Mode} {S : World → Prop} {fuel : Nat} {listed : Array Bool} {a : Act} {w : World} (rs : List Nat) (h : AllReadyH P md ops Q S fuel listed a w rs) (hr : Region.ready md ops listed = rs := by kernel_rfl) (hne : rs ≠ [] := by simp) : wpAnyH P md ops Q S (fuel + 1) listed a w := wpAnyH_ready hr hne h
theorem rdy1 {P : Program} {ops : Array Oper} {Q : Exit → Act → World → Prop} {md : Region.Mode} {S : World → Prop} {fuel : Nat} {listed : Array Bool} {a : Act} {w : World} (i : Nat) {o : Oper} (h : ∀ K' : Act → World → Prop, Shut (∀ a w, S w → (S w → wpAnyH P md ops Q S fuel (listed.setIfInBounds i true) a w) → K' a w) → Oper.wp P o a w K' Q)
 (hr : Region.ready md ops listed = [i] := by kernel_rfl) (ho : ops[i]? = some o := by (simp only [layG]; rfl)) (hw : Region.wanted o (yielded ops a.tmps) = true := by rfl) : wpAnyH P md ops Q S (fuel + 1) listed a w := wpAnyH_ready hr (by simp) (rdC h .nil ho hw)
section
attribute [local go_sem ↓] Go.wp_at_zero Go.wp_at_succ
def Lo (w : World) (g : Nat) : Prop := g < w.heap.size
theorem FV.below {D : World → (Nat → Prop) → Value → List UInt8 → Prop} {w w' : World} {v : Value} {f : Fo} (hD : Stays D) (h : FV D w (Lo w) v f) (hb : Below w.heap.size w w') : FV D w' (Lo w') v f :=
 h.kept hD (fun g hg => hb.block g hg) (fun _ hg => Nat.lt_of_lt_of_le hg hb.size)
namespace Fo
end Fo
theorem hundred (m : Nat) (n k : Nat) (hm : m ≤ 1099511627776) (hn : n ≤ 1099511627776) (hk : k ≤ 1099511627776) :
  IntKind.i64.wrap ((n : Int) + IntKind.i64.wrap ((k : Int) + IntKind.i64.wrap ((m : Int) / 100))) = ((n + (m / 100 + k) : Nat) : Int) := by
 have ht : (m : Int) / 100 = ((m / 100 : Nat) : Int) := by omega
 rw [ht, IntKind.wrap_i64, IntKind.wrap_i64, IntKind.wrap_i64]
 omega
end
def rowOf (D : World → (Nat → Prop) → Value → List UInt8 → Prop) (w : World) (S : Nat → Prop) : List Value → Fo → Prop
 | [], .nil => True
 | a :: b :: c :: xs, .cons t d k r => a = .int .u64 (t : Int) ∧ t < 18446744073709551616 ∧ D w S b d ∧ FV D w S c k ∧ rowOf D w S xs r
 | _, _ => False
section
variable {D : World → (Nat → Prop) → Value → List UInt8 → Prop} {w w' : World} {S S' : Nat → Prop}
theorem rowOf.nil_ {xs : List Value} (h : rowOf D w S xs .nil) : xs = [] := by
 match xs, h with
 | [], _ => rfl
 | [_], h => exact h.elim
 | [_, _], h => exact h.elim
 | _ :: _ :: _ :: _, h => exact h.elim
theorem rowOf.cons_ {xs : List Value} {t : Nat} {d : List UInt8} {k r : Fo} (h : rowOf D w S xs (.cons t d k r)) :
  ∃ a b c ys, xs = a :: b :: c :: ys ∧ a = .int .u64 (t : Int) ∧ t < 18446744073709551616 ∧ D w S b d ∧ FV D w S c k ∧ rowOf D w S ys r := by
 match xs, h with
 | [], h => exact h.elim
 | [_], h => exact h.elim
 | [_, _], h => exact h.elim
 | a :: b :: c :: ys, h => exact ⟨a, b, c, ys, rfl, h⟩
theorem rowOf.kept (hD : Stays D) (hk : ∀ g, S g → w'.heap[g]? = w.heap[g]?) (hS : ∀ g, S g → S' g) : ∀ {f : Fo} {xs : List Value}, rowOf D w S xs f → rowOf D w' S' xs f := by
 intro f
 induction f with
 | nil =>
  intro xs h
  obtain rfl := h.nil_
  trivial
 | cons t d k r _ ih =>
  intro xs h
  obtain ⟨a, b, c, ys, rfl, h1, h2, h3, h4, h5⟩ := h.cons_
  exact ⟨h1, h2, hD _ _ _ _ _ _ hk hS h3, h4.kept hD hk hS, ih h5⟩
theorem rowOf.snoc {t : Nat} {d : List UInt8} {k : Fo} {a b c : Value} (h1 : a = .int .u64 (t : Int)) (h2 : t < 18446744073709551616) (h3 : D w S b d) (h4 : FV D w S c k) :
  ∀ {f : Fo} {xs : List Value}, rowOf D w S xs f → rowOf D w S (xs ++ [a, b, c]) (f.app (.cons t d k .nil)) := by
 intro f
 induction f with
 | nil =>
  intro xs h
  obtain rfl := h.nil_
  exact ⟨h1, h2, h3, h4, trivial⟩
 | cons t' d' k' r _ ih =>
  intro xs h
  obtain ⟨a', b', c', ys, rfl, g1, g2, g3, g4, g5⟩ := h.cons_
  exact ⟨g1, g2, g3, g4, ih g5⟩
theorem rowOf.at {b : Nat} : ∀ {f : Fo} {xs : List Value} {o : Nat}, rowOf D w S xs f → (∀ j u, xs[j]? = some u → w.cell? ⟨b, o + j, none⟩ = some u) → FAt D w S f b o := by
 intro f
 induction f with
 | nil => intro xs o _ _; trivial
 | cons t d k r _ ih =>
  intro xs o h hc
  obtain ⟨x0, x1, x2, ys, rfl, g1, g2, g3, ⟨A, c, hx2, g4, g5⟩, g6⟩ := h.cons_
  refine ⟨by rw [← g1]; exact hc 0 _ rfl, g2, ⟨x1, hc 1 _ rfl, g3⟩, ⟨A, c, by rw [← hx2]; exact hc 2 _ rfl, g4, g5⟩, ih g6 (fun j u hj => ?_)⟩
  have h := hc (j + 3) u (by simpa using hj)
  rwa [show o + (j + 3) = o + 3 + j by omega] at h
end
def ItsI (base : Nat) (w : World) (v : Value) (g : Nat) : Prop := base ≤ g ∧ g < w.heap.size ∧ some g ≠ v.ownBlock
def MineI (base : Nat) (w : World) (g : Nat) : Prop := base ≤ g ∧ g < w.heap.size
def OwnF (D : World → (Nat → Prop) → Value → List UInt8 → Prop) (e : TypeId) (w : World) (base : Nat) (v : Value) (f : Fo) : Prop :=
 ∃ xs, w.ownsRow base e 3 v f.len xs ∧ rowOf D w (ItsI base w v) xs f
section
variable {D : World → (Nat → Prop) → Value → List UInt8 → Prop} {e : TypeId} {w w' : World} {base : Nat} {v : Value} {f : Fo}
theorem OwnF.nil (w : World) (base : Nat) : OwnF D e w base (.slice none 0 0) .nil := ⟨[], World.ownsRow_nil w base e 3, trivial⟩
theorem OwnF.below (hD : Stays D) (h : OwnF D e w base v f) (hb : Below w.heap.size w w') : OwnF D e w' base v f := by
 obtain ⟨xs, h1, h2⟩ := h
 exact ⟨xs, World.ownsRow.kept h1 ⟨hb.os, hb.tape, hb.output, hb.size, fun k hk _ => hb.block k hk⟩ (row := none) (by cases hv : v.ownBlock <;> simp),
  h2.kept hD (fun g hg => hb.block g hg.2.1) (fun g hg => ⟨hg.1, Nat.lt_of_lt_of_le hg.2.1 hb.size, hg.2.2⟩)⟩
theorem OwnF.lt (h : OwnF D e w base v f) : ∀ k, v.ownBlock = some k → base ≤ k ∧ k < w.heap.size := by
 obtain ⟨xs, h1, _⟩ := h
 exact fun k hk => World.ownsRow.lt h1 k hk
theorem OwnF.fv (hD : Stays D) (h : OwnF D e w base v f) : FV D w (MineI base w) v f := by
 obtain ⟨xs, h1, h2⟩ := h
 have h2' : rowOf D w (MineI base w) xs f := h2.kept hD (fun _ _ => rfl) (fun g hg => ⟨hg.1, hg.2.1⟩)
 have hlt := fun k hk => World.ownsRow.lt h1 k hk
 have hh := h1
 rcases h1.2 with ⟨rfl, h0⟩ | ⟨g, cap, cur, rfl, hb, hg, hnc, hcm, hcs, ht⟩
 ·exact ⟨none, 0, by rw [h0], by omega, fun h => absurd h (by omega)⟩
 ·refine ⟨_, cap, rfl, hnc, fun h0 => ⟨g, 0, rfl, hlt g rfl, h2'.at (fun j u hj => ?_)⟩⟩
  have hjl : j < xs.length := (List.getElem?_eq_some_iff.1 hj).1
  have hxl : xs.length = f.len * 3 := h1.1
  rw [World.ownsRow.cellAt hh (0 + j) (by omega), Nat.zero_add, hj]
end
def AppF (D : World → (Nat → Prop) → Value → List UInt8 → Prop) (e : TypeId) (w : World) (base : Nat) (v : Value) (f : Fo) (v' : Value) (w' : World) : Prop :=
 OwnF D e w' base v' f ∧ w.grownBy w' v.ownBlock ∧ (v'.ownBlock = v.ownBlock ∨ v'.ownBlock = some w.heap.size) ∧ ∃ g c, v' = .slice (some ⟨g, 0, none⟩) f.len c
theorem AppF.below {D : World → (Nat → Prop) → Value → List UInt8 → Prop} {e : TypeId} {w w' : World} {base : Nat} {v v' : Value} {f f0 : Fo} (h : AppF D e w base v f v' w') (hown : OwnF D e w base v f0) (hb : base ≤ w.heap.size) : Below base w w' :=
 (Below.refl _ _).grown h.2.1 hb fun k e => (hown.lt k e).1
theorem run_append_it {P : Program} {D : World → (Nat → Prop) → Value → List UInt8 → Prop} (hD : Stays D) (hone : ∀ w S v d, D w S v d → v.oneCell' = true) {ts e : TypeId} {z : Value} {bytes : Nat} (hu : P.underlying ts = some (.slice e))
  (hinfo : (P.info? e).map (fun i => (i.zero, i.size, i.bytes)) = some (some z, 3, bytes)) (hz : z.cells.size = 3) (w : World) (base : Nat) (v : Value) (f : Fo) (hown : OwnF D e w base v f)
  (g : Nat) (t : Nat) (d : List UInt8) (k : Fo) (bv cv : Value) (hblk : Blk w g e #[.int .u64 (t : Int), bv, cv]) (ht : t < 18446744073709551616) (hd : D w (ItsI base w v) bv d) (hk : FV D w (ItsI base w v) cv k)
  (hb : (f.len + 1) * bytes ≤ 140737488355328) (hlen : f.len + 1 ≤ 140737488355328) (hbase : base ≤ w.heap.size) :
  ∃ v' w', (Builtin.append_ #[ts, ts] ts #[v, .slice (some ⟨g, 0, none⟩) 1 1]).run P w = .ok v' w' ∧ AppF D e w base v (f.app (.cons t d k .nil)) v' w' := by
 obtain ⟨i, hi, hz0, hz1, hz2⟩ := info_parts hinfo
 obtain ⟨xs, h1, h2⟩ := hown
 have hlt := fun k hk => World.ownsRow.lt h1 k hk
 have hcv : cv.oneCell' = true := by obtain ⟨A, c, rfl, _⟩ := hk; rfl
 obtain ⟨v', w', hrun, k1, k2, _, k3⟩ := run_append_own_at (P := P) (w := w) base ts ts e i z 3 bytes hu hi hz0 hz1 hz2 hz (by decide) v f.len xs h1
  ⟨g, 0, none⟩ 1 1 [.int .u64 (t : Int), bv, cv] rfl (fun j u hj => by
   have e1 : (⟨g, 0, none⟩ : Addr).add j = ⟨g, j, none⟩ := by unfold Addr.add; split <;> simp_all
   rw [e1, hblk.cell]
   simpa using hj) (by
   intro u hu
   simp only [List.mem_cons, List.not_mem_nil, or_false] at hu
   rcases hu with rfl | rfl | rfl
   ·rfl
   ·exact hone _ _ _ _ hd
   ·exact hcv) (by unfold maxLen; omega) hb hbase
 have hlen' : (f.app (.cons t d k .nil)).len = f.len + 1 := by rw [Fo.len_app]; rfl
 refine ⟨v', w', hrun, ⟨xs ++ [.int .u64 (t : Int), bv, cv], by rw [hlen']; exact k1, ?_⟩, k2, k3, ?_⟩
 ·have h3 := rowOf.snoc (D := D) (w := w) rfl ht hd hk h2
  refine h3.kept hD (fun g' hg' => k2.block g' hg'.2.1 hg'.2.2) (fun g' hg' => ⟨hg'.1, Nat.lt_of_lt_of_le hg'.2.1 k2.size, ?_⟩)
  rcases k3 with h | h
  ·rw [h]; exact hg'.2.2
  ·rw [h]; intro h'; injection h' with h'; have := hg'.2.1; omega
 ·rw [hlen']
  rcases k1.2 with ⟨_, h0⟩ | ⟨g', cap, _, rfl, _⟩
  ·omega
  ·exact ⟨g', cap, rfl⟩
theorem wp_append_it {P : Program} {D : World → (Nat → Prop) → Value → List UInt8 → Prop} (hD : Stays D) (hone : ∀ w S v d, D w S v d → v.oneCell' = true) {ts e : TypeId} {z : Value} {bytes : Nat} (hu : P.underlying ts = some (.slice e))
  (hinfo : (P.info? e).map (fun i => (i.zero, i.size, i.bytes)) = some (some z, 3, bytes)) (hz : z.cells.size = 3) {w : World} {o : Oper} {a : Act} {K : Act → World → Prop} {Q : Exit → Act → World → Prop} (s x : Operand)
  (ho : o.op = .call { callee := .builtin .append, args := #[s, x], argTypes := #[ts, ts] }) (hty : o.type = ts)
  (base : Nat) (v : Value) (f : Fo) (hs : a.eval s = v) (hown : OwnF D e w base v f) (g : Nat) (hx : a.eval x = .slice (some ⟨g, 0, none⟩) 1 1)
  (t : Nat) (d : List UInt8) (k : Fo) (bv cv : Value) (hblk : Blk w g e #[.int .u64 (t : Int), bv, cv]) (ht : t < 18446744073709551616) (hd : D w (ItsI base w v) bv d) (hk : FV D w (ItsI base w v) cv k)
  (hb : (f.len + 1) * bytes ≤ 140737488355328) (hlen : f.len + 1 ≤ 140737488355328) (hbase : base ≤ w.heap.size)
  (hK : ∀ v' w', AppF D e w base v (f.app (.cons t d k .nil)) v' w' → K (a.put o.dst v') w') : o.wp P a w K Q := by
 obtain ⟨v', w', hrun, h2⟩ := run_append_it hD hone hu hinfo hz w base v f hown g t d k bv cv hblk ht hd hk hb hlen hbase
 unfold Oper.wp execOp
 simp only [ho, hty, resolve, invoke, builtin, Sem.run_bind, Sem.run_pure, Result.andThen_ok, List.map_toArray, List.map_cons, List.map_nil, hs, hx, hrun]
 exact hK v' w' h2
theorem wpList_append_it {P : Program} {D : World → (Nat → Prop) → Value → List UInt8 → Prop} (hD : Stays D) (hone : ∀ w S v d, D w S v d → v.oneCell' = true) {ts e : TypeId} {z : Value} {bytes : Nat} (hu : P.underlying ts = some (.slice e))
  (hinfo : (P.info? e).map (fun i => (i.zero, i.size, i.bytes)) = some (some z, 3, bytes)) (hz : z.cells.size = 3) {w : World} {ops : Array Oper} {rest : List Oper} {o : Oper} {a : Act} {Q : Exit → Act → World → Prop} (hgd : o.guard = none) (s x : Operand)
  (ho : o.op = .call { callee := .builtin .append, args := #[s, x], argTypes := #[ts, ts] }) (hty : o.type = ts)
  (base : Nat) (v : Value) (f : Fo) (hs : a.eval s = v) (hown : OwnF D e w base v f) (g : Nat) (hx : a.eval x = .slice (some ⟨g, 0, none⟩) 1 1)
  (t : Nat) (d : List UInt8) (k : Fo) (bv cv : Value) (hblk : Blk w g e #[.int .u64 (t : Int), bv, cv]) (ht : t < 18446744073709551616) (hd : D w (ItsI base w v) bv d) (hk : FV D w (ItsI base w v) cv k)
  (hb : (f.len + 1) * bytes ≤ 140737488355328) (hlen : f.len + 1 ≤ 140737488355328) (hbase : base ≤ w.heap.size)
  (hK : ∀ v' w', AppF D e w base v (f.app (.cons t d k .nil)) v' w' → wpList P ops Q rest (a.put o.dst v') w') : wpList P ops Q (o :: rest) a w :=
 wpList_plain hgd fun _ hK' => wp_append_it hD hone hu hinfo hz s x ho hty base v f hs hown g hx t d k bv cv hblk ht hd hk hb hlen hbase fun v' w' hp => hK' _ _ (hK v' w' hp)
theorem one_R (w : World) (S : Nat → Prop) (v : Value) (d : List UInt8) (h : DataR w S v d) : v.oneCell' = true := by unfold DataR at h; subst h; rfl
theorem one_I (w : World) (S : Nat → Prop) (v : Value) (d : List UInt8) (h : DataI w S v d) : v.oneCell' = true := by obtain ⟨_, ⟨A, c, rfl, _⟩, _⟩ := h; rfl
section
attribute [local go_sem ↓] Go.wp_at_zero Go.wp_at_succ
theorem Tryz.infoJ : (Tryz.prog.info? 79).map (fun i => (i.zero, i.size, i.bytes)) = some (some (.agg #[.int .u64 0, .string ⟨#[]⟩, .slice none 0 0]), 3, 48) := by kernel_rfl
theorem zeroI : (Value.agg #[.int .u64 0, .string ⟨#[]⟩, .slice none 0 0]).cells.size = 3 := by kernel_rfl
theorem Rd.keepS {w w' : World} {db B : Nat} {v : Value} {d : List UInt8} (h : Rd w db v d) (hs : 0 < d.length → db < B) (hb : Below B w w') : Rd w' db v d := by
 by_cases h0 : 0 < d.length
 ·exact h.heap (hb.block db (hs h0))
 ·have hd : d = [] := List.eq_nil_of_length_eq_zero (by omega)
  subst hd
  obtain ⟨A, c, rfl, h1, h2, _⟩ := h
  exact ⟨A, c, rfl, h1, h2, fun h => absurd h (by simp)⟩
end
section
attribute [local go_sem ↓] Go.wp_at_zero Go.wp_at_succ
theorem txt_append (a b : List UInt8) : txt a ++ txt b = txt (a ++ b) := by
 apply txt_ext
 rw [ByteArray.data_append, Array.toList_append, txt_data, txt_data, txt_data]
theorem lit1 (w : World) (b : UInt8) : Rd (w.alloc (.cells #[byteV b] 5)) w.heap.size (.slice (some ⟨w.heap.size, 0, none⟩) 1 1) [b] :=
 Rd.of_blk (l := [b]) (Blk.new w 5 _) (by simp)
def RPutPost (f x : Nat) (w : World) (r : Ending) (w' : World) : Prop := r = .returned (.string (txt (encV f x))) ∧ Below w.heap.size w w'
theorem group_byte (x : Nat) : IntKind.u8.wrap (IntKind.u8.wrap ((x : Int).tmod 128) + 128) = ((UInt8.ofNat (x % 128 + 128)).toNat : Int) := by
 have ht : (x : Int).tmod 128 = ((x % 128 : Nat) : Int) := Int.tmod_eq_emod_of_nonneg (by omega)
 have hq : x % 128 < 128 := Nat.mod_lt _ (by decide)
 rw [ht, ofNat_toNat, IntKind.wrap_u8, IntKind.wrap_u8]
 generalize x % 128 = q at hq
 omega
theorem group_rest (x : Nat) (h : x < 18446744073709551616) : IntKind.u64.wrap ((x : Int) / 128) = ((x / 128 : Nat) : Int) := by
 rw [IntKind.wrap_u64]; omega
theorem rput_any (f : Nat) (hf : f ≤ 100) : ∀ (x : Nat) (w : World), x < 128 ^ (f + 1) → x < 18446744073709551616 → Calls Tryz.prog 39 #[.int .u64 (x : Int)] w (RPutPost f x w) := by
 induction f with
 | zero =>
  intro x w h1 h2
  have hx : x < 128 := by simpa using h1
  have hst : (convert 25 9 (.slice (some ⟨w.heap.size, 0, none⟩) 1 1)).run Tryz.prog (w.alloc (.cells #[.int .u8 (x : Int)] 5)) = .ok (.string (txt [UInt8.ofNat x])) (w.alloc (.cells #[.int .u8 (x : Int)] 5)) := by
   have hb : byteV (UInt8.ofNat x) = .int .u8 (x : Int) := by unfold byteV; rw [ofNat_toNat]; congr 1; omega
   rw [← hb]
   exact str_of (lit1 w _)
  have HE := hHd (encV_small 0 x hx)
  clear h1 h2
  go_enter Tryz.func39, Tryz.ntmps39
  go_wp2_with fail
  go_ret
  exact ⟨by rw [HE.out]; rfl, bAl⟩
 | succ f ih =>
  intro x w h1 h2
  by_cases hx : x < 128
  ·have hst : (convert 25 9 (.slice (some ⟨w.heap.size, 0, none⟩) 1 1)).run Tryz.prog (w.alloc (.cells #[.int .u8 (x : Int)] 5)) = .ok (.string (txt [UInt8.ofNat x])) (w.alloc (.cells #[.int .u8 (x : Int)] 5)) := by
    have hb : byteV (UInt8.ofNat x) = .int .u8 (x : Int) := by unfold byteV; rw [ofNat_toNat]; congr 1; omega
    rw [← hb]
    exact str_of (lit1 w _)
   have HE := hHd (encV_small (f + 1) x hx)
   clear h1 h2 ih
   go_enter Tryz.func39, Tryz.ntmps39
   go_wp2_with fail
   go_ret
   exact ⟨by rw [HE.out]; rfl, bAl⟩
  ·have HE := hHd (encV_big f x hx)
   have hq : x / 128 < 128 ^ (f + 1) := by rw [Nat.pow_succ] at h1; omega
   obtain ⟨b, hb⟩ : ∃ b, b = UInt8.ofNat (x % 128 + 128) := ⟨_, rfl⟩
   obtain ⟨E, hE⟩ : ∃ E, E = encV f (x / 128) := ⟨_, rfl⟩
   have hcat : ¬ 9223372036854775807 < (txt [b]).size + (txt E).size := by
    have h := (encV_length f (x / 128)).2
    rw [txt_size, txt_size, hE]
    simp only [List.length_cons, List.length_nil]
    omega
   have hv := group_byte x
   rw [← hb] at hv
   have HV := hHd hv
   have HEE := hHd hE
   have HBB := hHd hb
   have HR := hHd (group_rest x h2)
   have HI : Hid (∀ (W : World) (xI : Int), xI = ((x / 128 : Nat) : Int) → Calls Tryz.prog 39 #[.int .u64 xI] W (RPutPost f (x / 128) W)) := fun W xI e => by
    rw [e]; exact ih (by omega) (x / 128) W hq (by omega)
   clear ih h1 hq h2 hv hE hb
   go_enter Tryz.func39, Tryz.ntmps39
   go_wp2_with fail
   refine wp_region_noPanic ?_
   refine wp_region_held_drew (S := fun _ => True) (by kernel_rfl) trivial (fun hS => ?_)
   refine tkH 0 hS ?_
   refine tkH 1 hS ?_
   refine tkH 2 hS ?_
   refine tkH 3 hS ?_
   refine tkH 6 hS ?_
   refine tkH 7 hS ?_
   refine rdy [4, 8] (rdC (fun K hK => ?st_0) (rdC (fun K hK => ?st_1) .nil))
   case' st_0 =>
    have hv := HV.out
    go_simp
    clear hv
    refine hK.out _ _ ?s_0 (fun hS => ?_)
    case s_0 => (exact hS)
    clear hK K
    (try simp only [Act.put, layS])
    refine held_more (S' := fun w' => Rd w' w.heap.size (.slice (some ⟨w.heap.size, 0, none⟩) 1 1) [b]) (fun _ _ => trivial) _ _ _ _ ?_
    replace hS := lit1 w.drew (b)
    refine tkH 5 hS ?_ (hy := fun w hSw => by have hc : (convert 25 9 _).run Tryz.prog _ = .ok (.string (txt [b])) _ := str_of hSw; (go_simp <;> with_reducible rfl))
    refine rdy1 8 fun K hK => ?_
    go_simp
    refine (HI.out _ _ HR.out).mono ?_
    rintro r w8 ⟨rfl, hb8⟩
    rw [← HEE.out]
    go_wp2_with fail
    refine hK.out _ _ ?s_2 (fun hS => ?_)
    case s_2 => (exact hS.below' hb8)
    clear hK K
    (try simp only [Act.put, layS])
    refine tkH 9 hS ?_
    refine tkH 10 hS ?_
    refine wpAnyH_done (by kernel_rfl) ?_ _
    refine NoPanic.normal ?_
   case' st_1 =>
    go_simp
    refine (HI.out _ _ HR.out).mono ?_
    rintro r w8 ⟨rfl, hb8⟩
    rw [← HEE.out]
    go_wp2_with fail
    refine hK.out _ _ ?s_1 (fun hS => ?_)
    case s_1 => (exact hS)
    clear hK K
    (try simp only [Act.put, layS])
    refine rdy1 4 fun K hK => ?_
    have hv := HV.out
    go_simp
    clear hv
    refine hK.out _ _ ?s_3 (fun hS => ?_)
    case s_3 => (exact hS)
    clear hK K
    (try simp only [Act.put, layS])
    refine held_more (S' := fun w' => Rd w' w8.heap.size (.slice (some ⟨w8.heap.size, 0, none⟩) 1 1) [b]) (fun _ _ => trivial) _ _ _ _ ?_
    replace hS := lit1 w8 (b)
    refine tkH 5 hS ?_ (hy := fun w hSw => by have hc : (convert 25 9 _).run Tryz.prog _ = .ok (.string (txt [b])) _ := str_of hSw; (go_simp <;> with_reducible rfl))
    refine tkH 9 hS ?_
    refine tkH 10 hS ?_
    refine wpAnyH_done (by kernel_rfl) ?_ _
    refine NoPanic.normal ?_
   ·have hbel : Below w.heap.size w w8 := (Below.refl _ _).drew.trans (hb8.mono (Nat.le_refl _))
    have hs8 := hb8.size
    go_wp2_with fail
    go_ret
    exact ⟨by rw [HE.out, ← HBB.out, ← HEE.out]; exact congrArg (fun s => Ending.returned (.string s)) (txt_append [b] E), hbel.alloc hs8 _⟩
   ·have hbel : Below w.heap.size w w8 := (((Below.refl _ _).drew.alloc (Nat.le_refl _) _).trans (hb8.mono (by simp)))
    go_wp2_with fail
    go_ret
    exact ⟨by rw [HE.out, ← HBB.out, ← HEE.out]; exact congrArg (fun s => Ending.returned (.string s)) (txt_append [b] E), hbel⟩
end
def getOut (s : List UInt8) : Ending := .returned (.tuple #[.int .u64 ((getV s).1 : Int), .int .i64 ((getV s).2.1 : Int), .int .i64 (getV s).2.2])
def RGetPost (s : List UInt8) (w : World) (r : Ending) (w' : World) : Prop := r = getOut s ∧ w = w'
theorem nrget_any (s : List UInt8) (w : World) (hs : s.length ≤ 100000) : Calls Tryz.prog 92 #[.string (txt s)] w (RGetPost s w) := by
 have hsz := txt_size s
 go_enter Tryz.func92, Tryz.ntmps92
 go_wp2
 go_loop [5] (fun i => ∃ k : Nat, k ≤ 10 ∧ k ≤ s.length ∧ i = .int .i64 (k : Int) ∧ Hid (∀ j b, j < k → s[j]? = some b → 127 < b.toNat)) (fun i => 10 - (intOf i).toNat)
 case atStart => exact ⟨0, by omega, by omega, rfl, fun j b hj => absurd hj (by omega)⟩
 case round =>
  obtain ⟨k, hk10, hkl, rfl, HK⟩ := hrel
  by_cases h1 : k < s.length
  ·by_cases h2 : k < 10
   ·obtain ⟨b, hb⟩ : ∃ b, s[k]? = some b := ⟨_, List.getElem?_eq_getElem h1⟩
    have hin : k < (txt s).size := by rw [txt_size]; exact h1
    have hix : (((txt s)[k]'hin).toNat : Int) = (b.toNat : Int) := by rw [txt_get s k h1 hin]; rw [List.getElem?_eq_getElem h1] at hb; injection hb with hb; rw [hb]
    have hd1 : decide (k < s.length) = true := decide_eq_true h1
    have hd2 : decide ((k : Int) < 10) = true := decide_eq_true (by omega)
    by_cases h3 : 127 < b.toNat
    ·have h3' : (127 : Int) < (b.toNat : Int) := by omega
     have HN : Hid (∀ j c, j < k + 1 → s[j]? = some c → 127 < c.toNat) := fun j c hj hc => by
      rcases Nat.lt_or_ge j k with hlt | hge
      ·exact HK j c hlt hc
      ·obtain rfl : j = k := by omega
       rw [hb] at hc; injection hc with hc; rw [← hc]; exact h3
     clear h3 hb
     go_wp2
     go_round
     case rel => exact ⟨k + 1, by omega, by omega, by go_num, HN⟩
     case measure => simp [intOf]; omega
    ·have h3' : ¬ (127 : Int) < (b.toNat : Int) := by omega
     have hl : lead 10 s = k := lead_eq 10 s k hk10 hkl HK.out (.inr (.inr ⟨b, hb, h3⟩))
     have HL := hHd hl
     clear hl
     have hk1 : (s.take (k + 1)).length = k + 1 := by rw [List.length_take]; omega
     have hkl' : ¬ k = s.length := by omega
     have hkb : (s.getD k 0).toNat = b.toNat := by simp [List.getD, hb]
     have HKB := hHd hkb
     have hk10' : ((k : Int) == 10) = false := beq_eq_false_iff_ne.2 (by omega)
     have hkl2 : ((k : Int) == (s.length : Int)) = false := beq_eq_false_iff_ne.2 (by omega)
     have HB := hHd hb
     clear hkb hb hk1
     go_wp2
     clear hd1 hd2 h3 h3'
     go_loop [6, 7] (fun x i => ∃ (m X : Nat) (iI : Int), m ≤ k + 1 ∧ iI = (m : Int) - 1 ∧ i = .int .i64 iI ∧ x = .int .u64 (X : Int) ∧ Hid (X = horner ((s.take (k + 1)).drop m)) ∧ Hid (X < 18446744073709551616)) (fun _ i => (intOf i + 1).toNat)
     case atStart => exact ⟨k + 1, 0, (k : Int), by omega, by omega, rfl, rfl, hHd (by rw [List.drop_eq_nil_of_le (by rw [List.length_take]; omega)]; rfl), hHd (by decide)⟩
     case round =>
      obtain ⟨m, X, iI, hm, hiI, rfl, rfl, HX, HX64⟩ := hrel
      cases m with
      | zero =>
       obtain rfl : iI = -1 := by omega
       clear hiI hm
       have hX : horner (s.take (k + 1)) = X := by have h := HX.out; rw [List.drop_zero] at h; exact h.symm
       have HF : Hid (0 < k → b.toNat = 0 → getOut s = .returned (.tuple #[.int .u64 0, .int .i64 0, .int .i64 11])) := hHd (fun h0 hb0 => by
        have hl := HL.out
        have h10 : ¬ k = 10 := by omega
        have h64 : ¬ 18446744073709551616 ≤ X := Nat.not_le.2 HX64.out
        have hkb := HKB.out
        unfold getOut getV
        rw [hl, if_neg h10, if_neg hkl', hX, if_neg h64, if_pos ⟨h0, by omega⟩]
        rfl)
       have HG : Hid (¬ (0 < k ∧ b.toNat = 0) → getOut s = .returned (.tuple #[.int .u64 (X : Int), .int .i64 ((k : Int) + 1), .int .i64 0])) := hHd (fun h0 => by
        have hl := HL.out
        have h10 : ¬ k = 10 := by omega
        have h64 : ¬ 18446744073709551616 ≤ X := Nat.not_le.2 HX64.out
        have hkb := HKB.out
        unfold getOut getV
        rw [hl, if_neg h10, if_neg hkl', hX, if_neg h64, if_neg (by rw [hkb]; exact h0)]
        rfl)
       clear hX
       go_wp2_with fail
       all_goals
        go_ret3
        refine ⟨?_, rfl⟩
        first
        | (rename (((b.toNat : Int)) == 0) = true => hz; exact (HF.out (by omega) (by have := eq_of_beq hz; omega)).symm)
        | (exact (HG.out (fun h => by
          obtain ⟨h1, h2⟩ := h
          first
          | omega
          | (rename (((b.toNat : Int)) == 0) = false => hz; rw [h2] at hz; exact absurd hz (by decide)))).symm)
      | succ p =>
       obtain rfl : iI = (p : Int) := by omega
       obtain ⟨c, hc⟩ : ∃ c, s[p]? = some c := ⟨_, List.getElem?_eq_getElem (by omega)⟩
       have hin2 : p < (txt s).size := by rw [txt_size]; omega
       have hix2 : (((txt s)[p]'hin2).toNat : Int) = (c.toNat : Int) := by rw [txt_get s p (by omega) hin2]; rw [List.getElem?_eq_getElem (by omega)] at hc; injection hc with hc; rw [hc]
       have hct : (s.take (k + 1))[p]? = some c := by rw [List.getElem?_take_of_lt (by omega)]; exact hc
       have hdr := horner_drop _ _ _ hct
       obtain ⟨q, hq⟩ : ∃ q, q = c.toNat % 128 := ⟨_, rfl⟩
       have hqI : (c.toNat : Int) % 128 = (q : Int) := by omega
       have hq128 : q < 128 := by omega
       by_cases hbigx : 144115188075855871 < X
       ·have hge := horner_ge (s.take (k + 1)) (p + 1)
        have hpow : 128 ≤ 128 ^ (p + 1) := by rw [Nat.pow_succ]; have : 0 < 128 ^ p := Nat.pow_pos (by decide); omega
        have hbig2 : 18446744073709551616 ≤ horner (s.take (k + 1)) := by
         rw [← HX.out] at hge
         have : X * 128 ≤ X * 128 ^ (p + 1) := Nat.mul_le_mul_left _ hpow
         omega
        have HO : Hid (getOut s = .returned (.tuple #[.int .u64 0, .int .i64 0, .int .i64 14])) := hHd (by
         have hl := HL.out
         have h10 : ¬ k = 10 := by omega
         unfold getOut getV
         rw [hl, if_neg h10, if_neg hkl', if_pos hbig2]
         rfl)
        have hbX : decide ((144115188075855871 : Int) < (X : Int)) = true := decide_eq_true (by omega)
        clear hge hpow hbig2 hdr hct hc hq hbigx hiI
        go_wp2
        go_ret3
        exact ⟨HO.out.symm, rfl⟩
       ·have hbX : decide ((144115188075855871 : Int) < (X : Int)) = false := decide_eq_false (by omega)
        have hX57 : X ≤ 144115188075855871 := by omega
        have HN : Hid (128 * X + q = horner ((s.take (k + 1)).drop p)) := hHd (by rw [hdr, ← HX.out, ← hq]; omega)
        have HN64 : Hid (128 * X + q < 18446744073709551616) := hHd (by omega)
        clear hdr hct hc hq hbigx hiI
        go_wp2
        go_round
        case rel => exact ⟨p, 128 * X + q, (p : Int) - 1, by omega, rfl, rfl, by go_num, HN, HN64⟩
        case measure => simp [intOf]
   ·obtain rfl : k = 10 := by omega
    have hl : lead 10 s = 10 := lead_eq 10 s 10 (by omega) hkl HK.out (.inl rfl)
    have HO : Hid (getOut s = .returned (.tuple #[.int .u64 0, .int .i64 0, .int .i64 14])) := hHd (by simp [getOut, getV, hl])
    clear hl
    go_wp2
    go_ret3
    exact ⟨HO.out.symm, rfl⟩
  ·obtain rfl : k = s.length := by omega
   have hl : lead 10 s = s.length := lead_eq 10 s _ hk10 hkl HK.out (.inr (.inl rfl))
   by_cases h10 : s.length = 10
   ·have HO : Hid (getOut s = .returned (.tuple #[.int .u64 0, .int .i64 0, .int .i64 14])) := hHd (by simp [getOut, getV, hl, h10])
    clear hl
    go_wp2
    go_ret3
    exact ⟨HO.out.symm, rfl⟩
   ·have HO : Hid (getOut s = .returned (.tuple #[.int .u64 0, .int .i64 0, .int .i64 10])) := hHd (by simp [getOut, getV, hl, h10])
    have hne : ((s.length : Int) == 10) = false := beq_eq_false_iff_ne.2 (by omega)
    clear hl
    go_wp2
    go_ret3
    exact ⟨HO.out.symm, rfl⟩
end Go.Proofs.YtleidkpdpabkpaaGreatDoor
