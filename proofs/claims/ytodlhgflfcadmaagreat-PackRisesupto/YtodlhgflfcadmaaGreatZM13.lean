/- What PackRises stands on: PakNum, PakMem, VadFst. -/
import Derived.Test.YtodlhgflfcadmaaGreatZM2
import Derived.Test.YtodlhgflfcadmaaGreatZM11
import Derived.Test.YtodlhgflfcadmaaGreatZM0
import Derived.Test.YtodlhgflfcadmaaGreatZM12
import Derived.Laws.OwnMore
import Derived.Test.YtodlhgflfcadmaaGreatZM10
import Derived.RangeFuncBox
import Derived.Shelf.Abstract
import Derived.Shelf.RegionOpen
import Derived.OwnWalkIn
import Derived.TacticsInMore
import Derived.LoopNIn
import Derived.LoopIn
set_option linter.unusedSimpArgs false
set_option linter.unusedVariables false
namespace Go.Proofs.YtodlhgflfcadmaaGreat
open Go.RowKit
def dtW (d : SpD) (a : NdD) : List UInt8 := if d.kind = 1 then dataX d (vlOf a) else []
def kdW (g : NdF → Fo) (d : SpD) (a : NdD) (k : NdF) : Fo := if d.kind = 1 then .nil else if d.kind = 3 then .cons 0 a.key .nil (g k) else g k
def collW (g : NdF → Fo) (d : SpD) (tag : Nat) : NdF → Fo
 | .nil => .nil
 | .cons a k r => if a.name = d.name then .cons tag (dtW d a) (kdW g d a k) (collW g d tag r) else collW g d tag r
def tgW (d : SpD) (i : Nat) : Nat := 2 * i + 2 + (if d.kind = 1 then 0 else 1)
def itF : SpF → Nat → NdF → Fo
 | .nil, _, _ => .nil
 | .cons d s r, i, f => (collW (fun k => itF s 0 k) d (tgW d i) f).app (itF r (i + 1) f)
def ItemsX (v : Int) (x : Nd) : Fo := if MayX v x = true then itF (rootX v).1.2 0 x.2 else .nil
theorem coll_app (g : NdF → Fo) (d : SpD) (tag : Nat) (l m : NdF) : collW g d tag (l.app m) = (collW g d tag l).app (collW g d tag m) := by
 induction l with
 | nil => rfl
 | cons a k r _ ih =>
  simp only [Fr.app, collW]
  split
  ·simp only [Fo.app, ih]
  ·exact ih
theorem coll_len (g : NdF → Fo) (d : SpD) (tag : Nat) (f : NdF) : (collW g d tag f).len ≤ f.len := by
 induction f with
 | nil => exact Nat.le_refl _
 | cons a k r _ ih =>
  simp only [collW, Fr.len]
  split
  ·simp only [Fo.len]; omega
  ·omega
theorem it_app (s t : SpF) (f : NdF) : ∀ i, itF (s.app t) i f = (itF s i f).app (itF t (i + s.len) f) := by
 induction s with
 | nil => intro i; rfl
 | cons d k r _ ih =>
  intro i
  simp only [Fr.app, itF, Fr.len, ih, Fo.app_assoc]
  rw [show i + 1 + r.len = i + (r.len + 1) by omega]
theorem it_len (s : SpF) (f : NdF) : ∀ i, (itF s i f).len ≤ s.len * f.len := by
 induction s with
 | nil => intro i; simp [itF, Fo.len]
 | cons d k r _ ih =>
  intro i
  simp only [itF, Fo.len_app, Fr.len]
  have h1 := coll_len (fun k' => itF k 0 k') d (tgW d i) f
  have h2 := ih (i + 1)
  have h3 : (r.len + 1) * f.len = r.len * f.len + f.len := by rw [Nat.add_mul, Nat.one_mul]
  omega
def keyD : Fo → List UInt8
 | .cons _ d _ _ => d
 | .nil => []
def begB (t : Nat) (k : Fo) : Bool := match k with
 | .cons u d _ _ => decide (t % 2 = 0) || (decide (u = 0) && !d.isEmpty)
 | .nil => decide (t % 2 = 0)
def linkB (t : Nat) (k : Fo) : Fo → Bool
 | .nil => true
 | .cons u _ l _ => decide (t < u) || (decide (t = u) && decide (u % 2 = 1) && ltY (keyD k) (keyD l))
def risB : Fo → Bool
 | .nil => true
 | .cons t _ k r => begB t k && risB k && linkB t k r && risB r
def geT (n : Nat) : Fo → Prop
 | .nil => True
 | .cons t _ _ r => n ≤ t ∧ geT n r
def ltT (n : Nat) : Fo → Prop
 | .nil => True
 | .cons t _ _ r => t < n ∧ ltT n r
theorem geT.mono {m n : Nat} (h : m ≤ n) : ∀ {f : Fo}, geT n f → geT m f := by
 intro f
 induction f with
 | nil => intro _; trivial
 | cons t d k r _ ih => intro ⟨h1, h2⟩; exact ⟨by omega, ih h2⟩
theorem geT.app {n : Nat} : ∀ {f g : Fo}, geT n f → geT n g → geT n (f.app g) := by
 intro f
 induction f with
 | nil => intro g _ h; exact h
 | cons t d k r _ ih => intro g ⟨h1, h2⟩ h; exact ⟨h1, ih h2 h⟩
theorem link_app {t n : Nat} {k : Fo} : ∀ {r g : Fo}, linkB t k r = true → t < n → geT n g → linkB t k (r.app g) = true := by
 intro r
 cases r with
 | nil =>
  intro g _ ht hg
  cases g with
  | nil => rfl
  | cons u d l q =>
   have h := hg.1
   have h2 : t < u := by omega
   simp [Fo.app, linkB, h2]
 | cons u d l q => intro g h _ _; exact h
theorem ris_app {n : Nat} : ∀ {f g : Fo}, risB f = true → risB g = true → ltT n f → geT n g → risB (f.app g) = true := by
 intro f
 induction f with
 | nil => intro g _ h _ _; exact h
 | cons t d k r _ ih =>
  intro g h1 h2 h3 h4
  simp only [risB, Bool.and_eq_true] at h1
  simp only [Fo.app, risB, Bool.and_eq_true]
  exact ⟨⟨⟨h1.1.1.1, h1.1.1.2⟩, link_app h1.1.2 h3.1 h4⟩, ih h1.2 h2 h3.2 h4⟩
theorem coll_tags (g : NdF → Fo) (d : SpD) (tag : Nat) (f : NdF) : geT tag (collW g d tag f) ∧ ltT (tag + 1) (collW g d tag f) := by
 induction f with
 | nil => exact ⟨trivial, trivial⟩
 | cons a k r _ ih =>
  simp only [collW]
  split
  ·exact ⟨⟨Nat.le_refl _, ih.1⟩, ⟨Nat.lt_succ_self _, ih.2⟩⟩
  ·exact ih
theorem it_tags (s : SpF) (f : NdF) : ∀ i, geT (2 * i + 2) (itF s i f) := by
 induction s with
 | nil => intro i; trivial
 | cons d k r _ ih =>
  intro i
  refine geT.app ((coll_tags _ d (tgW d i) f).1.mono (by unfold tgW; omega)) ((ih (i + 1)).mono (by omega))
def plB : SpF → Bool
 | .nil => true
 | .cons d s r => (decide (d.kind = 1) || (decide (d.kind = 3) && plB s)) && (findX d.name r).isNone && plB r
def fitA (F : NdF → Prop) (d : SpD) : NdF → Prop
 | .nil => True
 | .cons a k r => (a.name = d.name → rgtF k = true ∧ (if d.kind = 1 then a.key = [] ∧ rightX d (vlOf a) = true ∧ k = .nil else identX a.key = true ∧ F k)) ∧ fitA F d r
def FitF : SpF → NdF → Prop
 | .nil, _ => True
 | .cons d s r, f => (d.kind = 1 ∨ d.kind = 3) ∧ fitA (fun k => FitF s k) d f ∧ FitF r f
theorem coll_first {g : NdF → Fo} {d : SpD} {tag : Nat} : ∀ {f : NdF} {t : Nat} {x : List UInt8} {l q : Fo} {s : Stp}, collW g d tag f = .cons t x l q → allGt s f → t = tag ∧ ∃ a k, a.name = d.name ∧ l = kdW g d a k ∧ lessS s (stp a) = true := by
 intro f
 induction f with
 | nil => intro t x l q s h _; cases h
 | cons a k r _ ih =>
  intro t x l q s h ⟨h1, h2⟩
  simp only [collW] at h
  split at h
  ·rename_i hn
   injection h with e1 e2 e3 e4
   exact ⟨e1.symm, a, k, hn, e3.symm, h1⟩
  ·exact ih h h2
theorem coll_none {g F : _} {d : SpD} {tag : Nat} (hd : d.kind = 1) : ∀ {f : NdF} {s : Stp}, fitA F d f → allGt s f → s.1 = d.name → s.2 = [] → collW g d tag f = .nil := by
 intro f
 induction f with
 | nil => intro s _ _ _ _; rfl
 | cons a k r _ ih =>
  intro s ⟨h1, h2⟩ ⟨h3, h4⟩ hs1 hs2
  simp only [collW]
  split
  ·rename_i hn
   have h5 := (h1 hn).2
   rw [if_pos hd] at h5
   rw [lessS_iff] at h3
   have e1 : (stp a).1 = s.1 := hn.trans hs1.symm
   have e2 : (stp a).2 = s.2 := h5.1.trans hs2.symm
   rw [e1, e2] at h3
   rcases h3 with h3 | ⟨_, h3⟩
   ·rw [ltB_irrefl] at h3; cases h3
   ·rw [ltB_irrefl] at h3; cases h3
  ·exact ih h2 h4 hs1 hs2
theorem coll_rises {g : NdF → Fo} {F : NdF → Prop} {d : SpD} {i : Nat} (hk : d.kind = 1 ∨ d.kind = 3) (hg : ∀ k, F k → rgtF k = true → risB (g k) = true) (hgt : ∀ k, geT 1 (g k)) :
  ∀ {f : NdF}, fitA F d f → rgtF f = true → risB (collW g d (tgW d i) f) = true := by
 intro f
 induction f with
 | nil => intro _ _; rfl
 | cons a k r _ ih =>
  intro ⟨h1, h2⟩ hr
  obtain ⟨hra, hgt1, hrr⟩ := right_cons_iff.1 hr
  have hih := ih h2 hrr
  simp only [collW]
  split
  ·rename_i hn
   have h3 := h1 hn
   rcases hk with hk1 | hk3
   ·rw [if_pos hk1] at h3
    rw [coll_none hk1 h2 hgt1 hn h3.2.1]
    have ht : tgW d i % 2 = 0 := by unfold tgW; rw [if_pos hk1]; omega
    simp [risB, linkB, kdW, hk1, begB, ht]
   ·have hne : ¬ d.kind = 1 := by omega
    rw [if_neg hne] at h3
    have ht : tgW d i % 2 = 1 := by unfold tgW; rw [if_neg hne]; omega
    have hkd : ∀ b q, kdW g d b q = .cons 0 b.key .nil (g q) := fun b q => by unfold kdW; rw [if_neg hne, if_pos hk3]
    have hkey : a.key.isEmpty = false := by
     have := ident_ne h3.2.1
     simpa using this
    have hl0 : linkB 0 .nil (g k) = true := by
     have := hgt k
     cases hgk : g k with
     | nil => rfl
     | cons u x l q =>
      rw [hgk] at this
      have h := this.1
      have h' : 0 < u := h
      simp [linkB, h']
    have hris : risB (.cons 0 a.key .nil (g k)) = true := by
     simp only [risB, hl0, hg k h3.2.2 h3.1, Bool.and_true]
     rfl
    have hlink : linkB (tgW d i) (kdW g d a k) (collW g d (tgW d i) r) = true := by
     cases hc : collW g d (tgW d i) r with
     | nil => rfl
     | cons u x l q =>
      obtain ⟨e1, b, kb, hbn, hl, hls⟩ := coll_first hc hgt1
      subst e1 hl
      rw [lessS_iff] at hls
      have e2 : (stp a).1 = (stp b).1 := hn.trans hbn.symm
      have hlt : ltY a.key b.key = true := by
       rcases hls with h | ⟨_, h⟩
       ·rw [e2, ltB_irrefl] at h; cases h
       ·exact h
      rw [hkd, hkd]
      simp [linkB, keyD, ht, hlt]
    simp only [risB, hlink, hih, Bool.and_true]
    rw [hkd, hris]
    simp [begB, hkey]
  ·exact hih
theorem it_rises : ∀ (s : SpF) (i : Nat) (f : NdF), FitF s f → rgtF f = true → risB (itF s i f) = true := by
 intro s
 induction s with
 | nil => intro i f _ _; rfl
 | cons d k r ihk ihr =>
  intro i f ⟨h1, h2, h3⟩ hr
  refine ris_app (n := 2 * (i + 1) + 2) (coll_rises h1 (fun q h hq => ihk 0 q h hq) (fun q => (it_tags k q 0).mono (by omega)) h2 hr) (ihr (i + 1) f h3 hr) ?_ (it_tags r f (i + 1))
  have h := (coll_tags (fun q => itF k 0 q) d (tgW d i) f).2
  have : ∀ {m n : Nat} {f : Fo}, m ≤ n → ltT m f → ltT n f := by
   intro m n f hmn
   induction f with
   | nil => intro _; trivial
   | cons t d k r _ ih => intro ⟨h1, h2⟩; exact ⟨by omega, ih h2⟩
  exact this (by unfold tgW; split <;> omega) h
theorem scan_mem : ∀ {f : NdF} {s : SpF} {c : List Nat}, scanF f s c = none → ∀ i a k, f.get? i = some (a, k) → ∀ j y, findX a.name s = some j → s.get? j = some y → ∃ n, kidX1 y a k n = none := by
 intro f
 induction f with
 | nil => intro s c _ i a k h; cases h
 | cons b q r _ ih =>
  intro s c h i a k hi j y hj hy
  cases hf : findX b.name s with
  | none => rw [scan_name hf] at h; cases h
  | some m =>
   obtain ⟨z, hz, _, _⟩ := sp_get hf
   rw [scan_cons hf hz] at h
   cases hkd : kidX1 z b q (c.getD m 0) with
   | some e => rw [hkd] at h; cases h
   | none =>
    rw [hkd] at h
    cases i with
    | zero =>
     injection hi with hi
     injection hi with e1 e2
     subst e1 e2
     rw [hf] at hj
     injection hj with hj
     subst hj
     rw [hz] at hy
     injection hy with hy
     subst hy
     exact ⟨_, hkd⟩
    | succ i => exact ih h i a k hi j y hj hy
theorem fitA_of {F : NdF → Prop} {d : SpD} : ∀ {f : NdF}, (∀ i a k, f.get? i = some (a, k) → a.name = d.name → rgtF k = true ∧ (if d.kind = 1 then a.key = [] ∧ rightX d (vlOf a) = true ∧ k = .nil else identX a.key = true ∧ F k)) → fitA F d f := by
 intro f
 induction f with
 | nil => intro _; trivial
 | cons a k r _ ih => intro h; exact ⟨h 0 a k rfl, ih fun i b q hi => h (i + 1) b q hi⟩
theorem fit_of : ∀ (s : SpF) (f : NdF), plB s = true → rgtF f = true → (∀ i a k, f.get? i = some (a, k) → ∀ j y, findX a.name s = some j → s.get? j = some y → ∃ n, kidX1 y a k n = none) → FitF s f := by
 intro s
 induction s with
 | nil => intro f _ _ _; trivial
 | cons d q r ihk ihr =>
  intro f hp hr H
  simp only [plB, Bool.and_eq_true, Bool.or_eq_true, decide_eq_true_eq] at hp
  obtain ⟨⟨hp1, hp2⟩, hp3⟩ := hp
  refine ⟨hp1.elim .inl (fun h => .inr h.1), fitA_of fun i a k hi hn => ?_, ihr f hp3 hr fun i a k hi j y hj hy => ?_⟩
  ·obtain ⟨n, hn0⟩ := H i a k hi 0 (d, q) (by rw [hn]; simp [findX]) rfl
   have hlt := Fr.get_lt hi
   have hok := right_at.1 hr i hlt
   unfold okAt at hok
   rw [hi] at hok
   simp only [Bool.and_eq_true] at hok
   have hx := hok.1
   unfold kidX1 at hn0
   cases hh : headX d a k n with
   | some e => rw [hh] at hn0; cases hn0
   | none =>
    rw [hh] at hn0
    simp only at hn0
    unfold headX at hh
    by_cases h1 : d.kind = 1
    ·rw [if_pos h1] at hh
     have hl : leafB d a k = true := by
      cases hb : leafB d a k with
      | true => rfl
      | false => rw [hb] at hh; cases hh
     simp only [leafB, Bool.and_eq_true, decide_eq_true_eq] at hl
     have hk0 : k = .nil := by
      cases k with
      | nil => rfl
      | cons b x y => have := hl.1.2; simp [Fr.len] at this
     rw [if_pos h1]
     exact ⟨by rw [hk0]; rfl, hl.1.1, hl.2, hk0⟩
    ·have h3 : d.kind = 3 := hp1.elim (fun h => absurd h h1) (fun h => h.1)
     rw [if_neg h1, if_pos h3] at hh
     rw [if_neg h1] at hn0
     have hid : a.kind = 0 ∧ identX a.key = true := by
      by_cases h0 : a.kind ≠ 0 ∨ identX a.key = false
      ·rw [if_pos h0] at hh; cases hh
      ·refine ⟨Classical.byContradiction fun h => h0 (.inl h), ?_⟩
       cases hb : identX a.key with
       | true => rfl
       | false => exact absurd (.inr hb) h0
     unfold rgtX at hx
     rw [if_neg (by simp [hid.1])] at hx
     simp only [Bool.and_eq_true, decide_eq_true_eq] at hx
     rw [if_neg h1]
     have hpq : plB q = true := hp1.elim (fun h => absurd h h1) (fun h => h.2)
     exact ⟨hx.2, hid.2, ihk k hpq hx.2 (scan_mem hn0)⟩
  ·have hne : ¬ d.name = a.name := by
    intro e
    rw [e, hj] at hp2
    cases hp2
   exact H i a k hi (j + 1) y (by simp [findX, hne, hj]) hy
theorem root_pl (v : Int) : plB (rootX v).1.2 = true := by
 unfold rootX
 split
 ·rfl
 ·rename_i h
  have h' : v = 1 ∨ v = 2 ∨ v = 3 := by omega
  rcases h' with rfl | rfl | rfl <;> decide
theorem may_fit {v : Int} {x : Nd} (h : MayX v x = true) : FitF (rootX v).1.2 x.2 ∧ rgtF x.2 = true := by
 have hc : (CheckX v x).1 = 0 := of_decide_eq_true h
 unfold CheckX at hc
 by_cases h1 : (rootX v).2 ≠ 0
 ·rw [if_pos h1] at hc; exact absurd hc h1
 ·rw [if_neg h1] at hc
  by_cases h2 : rootB x = false
  ·rw [if_pos h2] at hc; cases hc
  ·rw [if_neg h2] at hc
   have h3 : rootB x = true := by simpa using h2
   simp only [rootB, Bool.and_eq_true, decide_eq_true_eq] at h3
   have hr : rgtF x.2 = true := by
    have h4 := h3.1
    unfold rgtX at h4
    rw [h3.2] at h4
    simpa using h4
   cases hs : insideX (rootX v).1.2 x.2 with
   | some b =>
    rw [hs] at hc
    have := (scan_err hs).1
    simp only at hc
    omega
   | none => exact ⟨fit_of _ _ (root_pl v) hr (scan_mem hs), hr⟩
theorem items_rise (v : Int) (x : Nd) : risB (ItemsX v x) = true := by
 unfold ItemsX
 split
 ·rename_i h
  obtain ⟨h1, h2⟩ := may_fit h
  exact it_rises _ _ _ h1 h2
 ·rfl
end Go.Proofs.YtodlhgflfcadmaaGreat
namespace Go.Proofs.YtodlhgflfcadmaaGreat
open Go.RowKit
section
variable {D : World → (Nat → Prop) → Value → List UInt8 → Prop} {e : TypeId} {w w' : World} {base : Nat} {v : Value} {f : Fo}
theorem OwnF.mono {base' : Nat} (h : OwnF D e w base' v f) (hD : Stays D) (hb : base ≤ base') : OwnF D e w base v f := by
 obtain ⟨xs, h1, h2⟩ := h
 exact ⟨xs, World.ownsRow.mono h1 hb, h2.kept hD (fun _ _ => rfl) (fun g hg => ⟨Nat.le_trans hb hg.1, hg.2⟩)⟩
theorem OwnF.shape (h : OwnF D e w base v f) : ∃ A c, v = .slice A f.len c := by
 obtain ⟨xs, h1, _⟩ := h
 rcases h1.2 with ⟨rfl, h0⟩ | ⟨g, cap, cur, rfl, _⟩
 ·exact ⟨none, 0, by rw [h0]⟩
 ·exact ⟨_, cap, rfl⟩
theorem OwnF.ne {g : Nat} {t : TypeId} {cs : Array Value} (h : OwnF D e w base v f) (hb : Blk w g t cs) (ht : t ≠ e) : v.ownBlock ≠ some g := by
 obtain ⟨xs, h1, _⟩ := h
 rcases h1.2 with ⟨rfl, _⟩ | ⟨g', cap, cur, rfl, _, hg, _⟩
 ·intro h; cases h
 ·intro h
  injection h with h
  subst h
  have := hg.symm.trans hb
  injection this with this
  injection this with _ h2
  exact ht h2.symm
theorem OwnF.setB (hD : Stays D) (h : OwnF D e w base v f) {p : Addr} (hp : p.block < base) (u : Value) : OwnF D e (w.setCell p u) base v f := by
 obtain ⟨xs, h1, h2⟩ := h
 refine ⟨xs, ownsRow_setCell_below h1 hp u, h2.kept hD (fun g hg => Below.heap_setCell _ _ _ _ (by have := hg.1; omega)) (fun g hg => ⟨hg.1, ?_, hg.2.2⟩)⟩
 have : (w.setCell p u).heap.size = w.heap.size := by simp [World.setCell]
 rw [this]
 exact hg.2.1
theorem rowOf.len_ {S : Nat → Prop} : ∀ {f : Fo} {xs : List Value}, rowOf D w S xs f → xs.length = f.len * 3 := by
 intro f
 induction f with
 | nil => intro xs h; rw [h.nil_]; simp [Fo.len]
 | cons t d k r _ ih =>
  intro xs h
  obtain ⟨a, b, c, ys, rfl, _, _, _, _, h5⟩ := h.cons_
  have := ih h5
  simp only [List.length_cons, Fo.len, this]
  omega
theorem rowOf.app_ {S : Nat → Prop} : ∀ {f g : Fo} {xs ys : List Value}, rowOf D w S xs f → rowOf D w S ys g → rowOf D w S (xs ++ ys) (f.app g) := by
 intro f
 induction f with
 | nil => intro g xs ys h h2; rw [h.nil_]; exact h2
 | cons t d k r _ ih =>
  intro g xs ys h h2
  obtain ⟨a, b, c, zs, rfl, h1, h3, h4, h5, h6⟩ := h.cons_
  exact ⟨h1, h3, h4, h5, ih h6 h2⟩
theorem rowOf.init_ {S : Nat → Prop} {t : Nat} {d : List UInt8} {k : Fo} : ∀ {f : Fo} {xs : List Value}, rowOf D w S xs (f.app (.cons t d k .nil)) → ∃ ys a b c, xs = ys ++ [a, b, c] ∧ rowOf D w S ys f := by
 intro f
 induction f with
 | nil =>
  intro xs h
  obtain ⟨a, b, c, ys, rfl, _, _, _, _, h5⟩ := h.cons_
  have h6 : rowOf D w S ys .nil := h5
  rw [h6.nil_]
  exact ⟨[], a, b, c, rfl, trivial⟩
 | cons t' d' k' r _ ih =>
  intro xs h
  obtain ⟨a, b, c, zs, rfl, h1, h3, h4, h5, h6⟩ := rowOf.cons_ (k := k') (r := r.app (.cons t d k .nil)) h
  obtain ⟨ys, x, y, z, rfl, h7⟩ := ih h6
  exact ⟨a :: b :: c :: ys, x, y, z, rfl, h1, h3, h4, h5, h7⟩
end
def set3o (w : World) (b o : Nat) (x0 x1 x2 : Value) : World := ((w.setCell ⟨b, o, none⟩ x0).setCell ⟨b, o + 1, none⟩ x1).setCell ⟨b, o + 2, none⟩ x2
theorem set3o_size (w : World) (b o : Nat) (x0 x1 x2 : Value) : (set3o w b o x0 x1 x2).heap.size = w.heap.size := by simp [set3o, World.setCell]
theorem set3o_far {w : World} {b o g : Nat} {x0 x1 x2 : Value} (h : g ≠ b) : (set3o w b o x0 x1 x2).heap[g]? = w.heap[g]? := by
 unfold set3o
 rw [Below.heap_setCell _ _ _ _ h, Below.heap_setCell _ _ _ _ h, Below.heap_setCell _ _ _ _ h]
theorem set_last {α : Type} (ys : List α) (a b c x y z : α) : (((ys ++ [a, b, c]).set ys.length x).set (ys.length + 1) y).set (ys.length + 2) z = ys ++ [x, y, z] := by
 induction ys with
 | nil => rfl
 | cons p ys ih => simp
theorem OwnF.last {D : World → (Nat → Prop) → Value → List UInt8 → Prop} (hD : Stays D) {e : TypeId} {w : World} {base g c n : Nat} {f : Fo} {t0 t : Nat} {d0 d : List UInt8} {k0 k : Fo} {dv kv : Value} (hn : n = f.len + 1)
  (h : OwnF D e w base (.slice (some ⟨g, 0, none⟩) n c) (f.app (.cons t0 d0 k0 .nil))) (ht : t < 18446744073709551616) (hd : D w (ItsI base w (.slice (some ⟨g, 0, none⟩) n c)) dv d) (hk : FV D w (ItsI base w (.slice (some ⟨g, 0, none⟩) n c)) kv k) :
  OwnF D e (set3o w g (f.len * 3) (.int .u64 (t : Int)) dv kv) base (.slice (some ⟨g, 0, none⟩) n c) (f.app (.cons t d k .nil)) := by
 subst hn
 obtain ⟨xs, h1, h2⟩ := h
 obtain ⟨ys, a, b, c', rfl, h3⟩ := h2.init_
 have hl := h3.len_
 have hlen : (f.app (.cons t0 d0 k0 .nil)).len = f.len + 1 := by rw [Fo.len_app]; rfl
 have hlen' : (f.app (.cons t d k .nil)).len = f.len + 1 := by rw [Fo.len_app]; rfl
 rw [hlen] at h1
 have s1 := (World.ownsRow.stored h1 (f.len * 3) (.int .u64 (t : Int))).1
 have s2 := (World.ownsRow.stored s1 (f.len * 3 + 1) dv).1
 have s3 := (World.ownsRow.stored s2 (f.len * 3 + 2) kv).1
 have e1 : ((((ys ++ [a, b, c']).set (f.len * 3) (.int .u64 (t : Int))).set (f.len * 3 + 1) dv).set (f.len * 3 + 2) kv) = ys ++ [.int .u64 (t : Int), dv, kv] := by rw [← hl]; exact set_last ys a b c' _ _ _
 rw [e1] at s3
 have hkeep : ∀ x, ItsI base w (.slice (some ⟨g, 0, none⟩) (f.len + 1) c) x → (set3o w g (f.len * 3) (.int .u64 (t : Int)) dv kv).heap[x]? = w.heap[x]? := fun x hx => set3o_far (fun e => hx.2.2 (by rw [e]; rfl))
 have hS : ∀ x, ItsI base w (.slice (some ⟨g, 0, none⟩) (f.len + 1) c) x → ItsI base (set3o w g (f.len * 3) (.int .u64 (t : Int)) dv kv) (.slice (some ⟨g, 0, none⟩) (f.len + 1) c) x := fun x hx => ⟨hx.1, by rw [set3o_size]; exact hx.2.1, hx.2.2⟩
 refine ⟨ys ++ [.int .u64 (t : Int), dv, kv], by rw [hlen']; exact s3, ?_⟩
 exact rowOf.snoc rfl ht (hD _ _ _ _ _ _ hkeep hS hd) (hk.kept hD hkeep hS) (h3.kept hD hkeep hS)
def ManyF (D : World → (Nat → Prop) → Value → List UInt8 → Prop) (e : TypeId) (w : World) (base : Nat) (v : Value) (f : Fo) (v' : Value) (w' : World) : Prop :=
 OwnF D e w' base v' f ∧ w.grownBy w' v.ownBlock ∧ (v'.ownBlock = v.ownBlock ∨ v'.ownBlock = some w.heap.size)
theorem ManyF.below {D : World → (Nat → Prop) → Value → List UInt8 → Prop} {e : TypeId} {w w' : World} {base : Nat} {v v' : Value} {f f0 : Fo} (h : ManyF D e w base v f v' w') (hown : OwnF D e w base v f0) (hb : base ≤ w.heap.size) : Below base w w' :=
 (Below.refl _ _).grown h.2.1 hb fun k e => (hown.lt k e).1
theorem run_append_many {P : Program} {D : World → (Nat → Prop) → Value → List UInt8 → Prop} (hD : Stays D) (hone : ∀ w S v d, D w S v d → v.oneCell' = true) {ts e : TypeId} {z : Value} {bytes : Nat} (hu : P.underlying ts = some (.slice e))
  (hinfo : (P.info? e).map (fun i => (i.zero, i.size, i.bytes)) = some (some z, 3, bytes)) (hz : z.cells.size = 3) (w : World) (base mid : Nat) (v u : Value) (f g : Fo) (hown : OwnF D e w base v f)
  (hu2 : OwnF D e w mid u g) (hm : ∀ k, v.ownBlock = some k → k < mid) (hbm : base ≤ mid)
  (hb : (f.len + g.len) * bytes ≤ 140737488355328) (hlen : f.len + g.len ≤ 140737488355328) (hbase : base ≤ w.heap.size) :
  ∃ v' w', (Builtin.append_ #[ts, ts] ts #[v, u]).run P w = .ok v' w' ∧ ManyF D e w base v (f.app g) v' w' := by
 obtain ⟨i, hi, hz0, hz1, hz2⟩ := info_parts hinfo
 obtain ⟨xs, h1, h2⟩ := hown
 obtain ⟨ys, g1, g2⟩ := hu2
 have hlt := fun k hk => World.ownsRow.lt h1 k hk
 have hone2 : ∀ {S : Nat → Prop} {g : Fo} {ys : List Value}, rowOf D w S ys g → ∀ u ∈ ys, u.oneCell' = true := by
  intro S g
  induction g with
  | nil => intro ys h u hu; rw [h.nil_] at hu; cases hu
  | cons t d k r _ ih =>
   intro ys h u hu
   obtain ⟨a, b, c, zs, rfl, k1, _, k3, k4, k5⟩ := h.cons_
   simp only [List.mem_cons] at hu
   rcases hu with rfl | rfl | rfl | hu
   ·rw [k1]; rfl
   ·exact hone _ _ _ _ k3
   ·obtain ⟨A, c', rfl, _⟩ := k4; rfl
   ·exact ih k5 u hu
 have hrow : ∀ x, ItsI mid w u x → ItsI base w v x := fun x hx => ⟨Nat.le_trans hbm hx.1, hx.2.1, fun e => by have := hm x e.symm; have := hx.1; omega⟩
 have g3 : rowOf D w (ItsI base w v) ys g := g2.kept hD (fun _ _ => rfl) hrow
 have hall := rowOf.app_ h2 g3
 rcases g1.2 with ⟨rfl, h0⟩ | ⟨gb, cap, cur, rfl, hgb, hg, hnc, hcm, hcs, htk⟩
 ·have hg0 : g = .nil := Fo.len_zero h0
  subst hg0
  refine ⟨v, w, ?_, ⟨xs, by rw [Fo.app_nil]; exact h1, by rw [Fo.app_nil]; exact h2⟩, World.grownBy.refl w _, .inl rfl⟩
  rcases h1.2 with ⟨rfl, _⟩ | ⟨gv, cap, cur, rfl, _, _, hnc, _⟩
  ·simp [Builtin.append_, run_underlying hu, sizeOf, typeInfo, hi, Builtin.lenOf, Builtin.firstCells]
  ·simp [Builtin.append_, run_underlying hu, sizeOf, typeInfo, hi, Builtin.lenOf, Builtin.firstCells, hnc, storeCells]
 ·have hyl : ys.length = g.len * 3 := g1.1
  obtain ⟨v', w', hrun, k1, k2, _, k3⟩ := run_append_own_at (P := P) (w := w) base ts ts e i z 3 bytes hu hi hz0 hz1 hz2 hz (by decide) v f.len xs h1
   ⟨gb, 0, none⟩ g.len cap ys hyl (fun j u hj => by
    have e1 : (⟨gb, 0, none⟩ : Addr).add j = ⟨gb, j, none⟩ := by unfold Addr.add; split <;> simp_all
    have hjl : j < ys.length := (List.getElem?_eq_some_iff.1 hj).1
    rw [e1, World.ownsRow.cellAt g1 j (by omega), hj]) (hone2 g3) (by unfold maxLen; omega) hb hbase
  refine ⟨v', w', hrun, ⟨xs ++ ys, by rw [Fo.len_app]; exact k1, ?_⟩, k2, k3⟩
  refine hall.kept hD (fun g' hg' => k2.block g' hg'.2.1 hg'.2.2) (fun g' hg' => ⟨hg'.1, Nat.lt_of_lt_of_le hg'.2.1 k2.size, ?_⟩)
  rcases k3 with h | h
  ·rw [h]; exact hg'.2.2
  ·rw [h]; intro h'; injection h' with h'; have := hg'.2.1; omega
theorem wp_append_many {P : Program} {D : World → (Nat → Prop) → Value → List UInt8 → Prop} (hD : Stays D) (hone : ∀ w S v d, D w S v d → v.oneCell' = true) {ts e : TypeId} {z : Value} {bytes : Nat} (hu : P.underlying ts = some (.slice e))
  (hinfo : (P.info? e).map (fun i => (i.zero, i.size, i.bytes)) = some (some z, 3, bytes)) (hz : z.cells.size = 3) {w : World} {o : Oper} {a : Act} {K : Act → World → Prop} {Q : Exit → Act → World → Prop} (s x : Operand)
  (ho : o.op = .call { callee := .builtin .append, args := #[s, x], argTypes := #[ts, ts] }) (hty : o.type = ts)
  (base mid : Nat) (v u : Value) (f g : Fo) (hs : a.eval s = v) (hown : OwnF D e w base v f) (hx : a.eval x = u) (hu2 : OwnF D e w mid u g) (hm : ∀ k, v.ownBlock = some k → k < mid) (hbm : base ≤ mid)
  (hb : (f.len + g.len) * bytes ≤ 140737488355328) (hlen : f.len + g.len ≤ 140737488355328) (hbase : base ≤ w.heap.size)
  (hK : ∀ v' w', ManyF D e w base v (f.app g) v' w' → K (a.put o.dst v') w') : o.wp P a w K Q := by
 obtain ⟨v', w', hrun, h2⟩ := run_append_many hD hone hu hinfo hz w base mid v u f g hown hu2 hm hbm hb hlen hbase
 unfold Oper.wp execOp
 simp only [ho, hty, resolve, invoke, builtin, Sem.run_bind, Sem.run_pure, Result.andThen_ok, List.map_toArray, List.map_cons, List.map_nil, hs, hx, hrun]
 exact hK v' w' h2
theorem wpList_append_many {P : Program} {D : World → (Nat → Prop) → Value → List UInt8 → Prop} (hD : Stays D) (hone : ∀ w S v d, D w S v d → v.oneCell' = true) {ts e : TypeId} {z : Value} {bytes : Nat} (hu : P.underlying ts = some (.slice e))
  (hinfo : (P.info? e).map (fun i => (i.zero, i.size, i.bytes)) = some (some z, 3, bytes)) (hz : z.cells.size = 3) {w : World} {ops : Array Oper} {rest : List Oper} {o : Oper} {a : Act} {Q : Exit → Act → World → Prop} (hgd : o.guard = none) (s x : Operand)
  (ho : o.op = .call { callee := .builtin .append, args := #[s, x], argTypes := #[ts, ts] }) (hty : o.type = ts)
  (base mid : Nat) (v u : Value) (f g : Fo) (hs : a.eval s = v) (hown : OwnF D e w base v f) (hx : a.eval x = u) (hu2 : OwnF D e w mid u g) (hm : ∀ k, v.ownBlock = some k → k < mid) (hbm : base ≤ mid)
  (hb : (f.len + g.len) * bytes ≤ 140737488355328) (hlen : f.len + g.len ≤ 140737488355328) (hbase : base ≤ w.heap.size)
  (hK : ∀ v' w', ManyF D e w base v (f.app g) v' w' → wpList P ops Q rest (a.put o.dst v') w') : wpList P ops Q (o :: rest) a w :=
 wpList_plain hgd fun _ hK' => wp_append_many hD hone hu hinfo hz s x ho hty base mid v u f g hs hown hx hu2 hm hbm hb hlen hbase fun v' w' hp => hK' _ _ (hK v' w' hp)
end Go.Proofs.YtodlhgflfcadmaaGreat
namespace Go.Proofs.YtodlhgflfcadmaaGreat
open Go.RowKit Go.Shelf
attribute [local go_sem] Oper.semAt_some
section
variable {W W' w : World} {row : Option Nat} {B : Nat}
theorem Blk.obj {g t : Nat} {cs : Array Value} (h : Blk W g t cs) (hg : W.grownBy W' row) (hr : ∀ r, row = some r → ∃ o : Obj, W.heap[r]? = some o ∧ o.isCells = false) : Blk W' g t cs := (grownBy_keeps_cells hg hr h rfl).trans h
theorem below_obj (h : Below B w W) (hg : W.grownBy W' row) (hr : ∀ r, row = some r → B ≤ r) (hB : B ≤ w.heap.size) : Below B w W' :=
 h.trans ⟨hg.os, hg.tape, hg.output, hg.size, fun k hk => hg.block k (by have := h.size; omega) (fun e => by have := hr k e.symm; omega)⟩
end
def EncP (b : Bad) (B : Nat) (args : Array Value) (W : World) : Prop := ∃ v, args = #[.agg #[.int .i64 (b.1 : Int), v]] ∧ OwnS B W v b.2
def EncO (o : Option Bad) (B : Nat) (args : Array Value) (W : World) : Prop := ∃ b, o = some b ∧ EncP b B args W
def PrbS (g : Nat) (lb : Array Value) (o : Option Bad) (w : World) : Prop := SeqOne Tryz.prog g lb (EncO o) o.isSome w
theorem EncP.mono {b : Bad} {B B' : Nat} {args : Array Value} {W : World} (h : EncP b B args W) (hb : B' ≤ B) : EncP b B' args W := by
 obtain ⟨v, h1, h2⟩ := h; exact ⟨v, h1, h2.mono hb⟩
theorem EncO.mono {o : Option Bad} {B B' : Nat} {args : Array Value} {W : World} (h : EncO o B args W) (hb : B' ≤ B) : EncO o B' args W := by
 obtain ⟨b, h1, h2⟩ := h; exact ⟨b, h1, h2.mono hb⟩
theorem EncO.size {o : Option Bad} {B : Nat} {args : Array Value} {W : World} (h : EncO o B args W) : args.size = 1 := by
 obtain ⟨b, _, v, rfl, _⟩ := h; rfl
theorem SeqOne.later {P : Program} {g : Nat} {lb : Array Value} {Enc : Nat → Array Value → World → Prop} {has : Bool} {w w' : World} (h : SeqOne P g lb Enc has w) (hb : Below w.heap.size w w') : SeqOne P g lb Enc has w' :=
 fun l Jx W hW => h l Jx W (hb.trans (hW.mono hb.size))
def FirstP (b : Bad) (w : World) (r : Ending) (w' : World) : Prop := ∃ v, r = .returned (.tuple #[.int .i64 (b.1 : Int), v]) ∧ WayV w'.heap.size w' v b.2 ∧ Below w.heap.size w w'
def FstX (o : Option Bad) (w : World) (c : Code) (W : World) : Prop := c = .ret ∧ ∃ b v, o = some b ∧ Blk W w.heap.size 31 #[.int .i64 (b.1 : Int)] ∧ Blk W (w.heap.size + 1) 50 #[v] ∧ OwnS (w.heap.size + 2) W v b.2 ∧ Below w.heap.size w W
def FstA (o : Option Bad) (f : Value) (w : World) (a : Act) (W : World) : Prop := ∃ (b : Bad) (A : Option Addr) (c Bx : Nat), o = some b ∧ Blk W Bx 92 #[.int .i64 (b.1 : Int), .slice A b.2.length c] ∧ OwnS (w.heap.size + 2) W (.slice A b.2.length c) b.2 ∧
 Blk W w.heap.size 31 #[.int .i64 0] ∧ Blk W (w.heap.size + 1) 50 #[.slice none 0 0] ∧ w.heap.size + 2 ≤ Bx ∧ Below w.heap.size w W ∧
 a = { tmps := #[f, undef, .pointer (some ⟨w.heap.size, 0, none⟩), .pointer (some ⟨w.heap.size + 1, 0, none⟩), .pointer (some ⟨Bx, 0, none⟩), f, .agg #[.int .i64 (b.1 : Int), .slice A b.2.length c], undef, undef, undef, undef], defers := [] }
theorem fstX_own (o : Option Bad) (w : World) (c : Code) : OwnFrom (w.heap.size + 2) (fun (_ : Unit) W => FstX o w c W) := by
 rintro s X Y row ⟨h1, b, v, h2, h3, h4, h5, h6⟩ hg hr
 have hc : ∀ r, row = some r → ∃ o : Obj, X.heap[r]? = some o ∧ o.isCells = false := fun r e => (hr r e).2
 exact ⟨h1, b, v, h2, h3.obj hg hc, h4.obj hg hc, h5.obj hg hc, below_obj h6 hg (fun r e => by have := (hr r e).1; omega) (Nat.le_refl _)⟩
theorem fstA_own (o : Option Bad) (f : Value) (w : World) (a : Act) : OwnFrom (w.heap.size + 2) (fun (_ : Unit) W => FstA o f w a W) := by
 rintro s X Y row ⟨b, A, c, Bx, h1, h2, h3, h4, h5, h6, h7, h8⟩ hg hr
 have hc : ∀ r, row = some r → ∃ o : Obj, X.heap[r]? = some o ∧ o.isCells = false := fun r e => (hr r e).2
 exact ⟨b, A, c, Bx, h1, h2.obj hg hc, h3.obj hg hc, h4.obj hg hc, h5.obj hg hc, h6, below_obj h7 hg (fun r e => by have := (hr r e).1; omega) (Nat.le_refl _), h8⟩
theorem results_fst {tmps : Array Value} {W : World} {B : Nat} {e : Int} {v : Value} (h2 : tmps.getD 2 undef = .pointer (some ⟨B, 0, none⟩)) (h3 : tmps.getD 3 undef = .pointer (some ⟨B + 1, 0, none⟩))
  (q0 : Blk W B 31 #[.int .i64 e]) (q1 : Blk W (B + 1) 50 #[v]) :
  (results Tryz.f29 tmps).run Tryz.prog W = .ok (.tuple #[.int .i64 e, v]) W := by
 have c0 := (q0.cell 0).trans rfl
 have c1 := (q1.cell 0).trans rfl
 have g2 : tmps[2]?.getD undef = .pointer (some ⟨B, 0, none⟩) := by simpa using h2
 have g3 : tmps[3]?.getD undef = .pointer (some ⟨B + 1, 0, none⟩) := by simpa using h3
 simp [results, Tryz.f29, go_sem, g2, g3, c0, c1]
set_option maxRecDepth 100000 in
set_option maxHeartbeats 2000000 in
theorem vfirst_any (g : Nat) (lb : Array Value) (o : Option Bad) (w : World) (eg : ∀ args w, (callFunc g args).run Tryz.prog w = .ok (.enter g args) w) (hseq : PrbS g lb o w) :
  Calls Tryz.prog 29 #[.func (.func g) #[] lb] w (FirstP (badO o) w) := by
 refine (callsIn_wide (n := 9)).1 ?_
 refine callsIn_of_wp_marks Tryz.func29 rfl trivial ?_ rfl
 simp only [Tryz.ntmps29, List.size_toArray, List.length_cons, List.length_nil, Nat.reduceAdd, Nat.reduceSub, Array.replicate_succ, Array.replicate_zero, List.push_toArray, List.append_toArray, List.nil_append, List.cons_append]
 gi_wp2
 obtain ⟨W2, hW2⟩ : ∃ W2, W2 = (w.alloc (.cells #[.int .i64 0] 31)).alloc (.cells #[.slice none 0 0] 50) := ⟨_, rfl⟩
 rw [← hW2]
 have hs2 : W2.heap.size = w.heap.size + 2 := by rw [hW2]; simp
 have hb2 : Below w.heap.size w W2 := by rw [hW2]; exact ((Below.refl _ _).alloc (Nat.le_refl _) _).alloc (by simp) _
 have b0 : Blk W2 w.heap.size 31 #[.int .i64 0] := by rw [hW2]; exact (Blk.new w _ _).alloc _
 have b1 : Blk W2 (w.heap.size + 1) 50 #[.slice none 0 0] := by rw [hW2]; exact Blk.newA (by simp) _ _
 have HB2 := Lib.hid hb2
 have HS2 := Lib.hid hs2
 have H0 := Lib.hid (And.intro b0 b1)
 refine wpIn_range_one (by decide) rfl eg (hseq.later hb2) (Below.refl _ _) (fun B args W h => h.size) (fun B B' args W hb h => h.mono hb) (FstX o w) (by rw [hs2]; exact fstX_own o w) (FstA o (.func (.func g) #[] lb) w) (by rw [hs2]; exact fstA_own o _ w) ?assign ?body ?done ?stop
 all_goals clear hW2 hs2 hb2 b0 b1 hseq
 case assign =>
  rintro l args W K hbW ⟨b, ho, v, rfl, hv⟩ hK
  rw [HS2.out] at hv
  obtain ⟨A, c, rfl⟩ := hv.shape
  gi_wp2
  have hal : Below W2.heap.size W (W.alloc (.cells #[.int .i64 (b.1 : Int), .slice A b.2.length c] 92)) := (Below.refl _ _).alloc hbW.size _
  refine hK _ _ ((KeepsOthers.alloc _ _).from _) ⟨b, A, c, W.heap.size, ho, Blk.new _ _ _, hv.below ((Below.refl _ _).alloc (Nat.le_refl _) _), ?_, ?_, ?_, ?_, rfl⟩
  ·exact ((H0.out.1.below hbW H0.out.1.lt).alloc _)
  ·exact ((H0.out.2.below hbW H0.out.2.lt).alloc _)
  ·have := hbW.size; have := HS2.out; omega
  ·exact HB2.out.trans ((hbW.trans hal).mono HB2.out.size)
 case body =>
  rintro l a' W hl ⟨b, A, c, Bx, h1, h2, h3, h4, h5, h6, h7, rfl⟩
  have hmix : Tryz.prog.follows .mixedOrders = true := by kernel_rfl
  have q0 := (h2.cell 0).trans rfl
  have q1 := (h2.cell 1).trans rfl
  have c0 := (h4.cell 0).trans rfl
  have c1 := (h5.cell 0).trans rfl
  have f0 := h4.frozen 0
  have f1 := h5.frozen 0
  obtain ⟨W5, hW5⟩ : ∃ W5, W5 = (((W.setCell ⟨w.heap.size, 0, none⟩ (.int .i64 (b.1 : Int))).setCell ⟨w.heap.size + 1, 0, none⟩ (.slice A b.2.length c)).drew) := ⟨_, rfl⟩
  have HEND : Hid (leftO W2.heap.size (FstX o w) W .ret { tmps := #[], defers := [] } W5) := Lib.hid (by
   have e0 : Blk W5 w.heap.size 31 #[.int .i64 (b.1 : Int)] := by
    rw [hW5]
    have h := (h4.set_ 0 (.int .i64 (b.1 : Int))).far (p := ⟨w.heap.size + 1, 0, none⟩) (by show w.heap.size ≠ w.heap.size + 1; omega) (.slice A b.2.length c)
    simp only [List.setIfInBounds_toArray, List.set_cons_zero] at h
    exact h
   have e1 : Blk W5 (w.heap.size + 1) 50 #[.slice A b.2.length c] := by
    rw [hW5]
    have h := (h5.far (p := ⟨w.heap.size, 0, none⟩) (by show w.heap.size + 1 ≠ w.heap.size; omega) (.int .i64 (b.1 : Int))).set_ 0 (.slice A b.2.length c)
    simp only [List.setIfInBounds_toArray, List.set_cons_zero] at h
    exact h
   have e2 : OwnS (w.heap.size + 2) W5 (.slice A b.2.length c) b.2 := by
    have hlt := fun k hk => (h3.lt k hk).1
    rw [hW5]
    have g1 := OwnK.grown h3 (grown_setAny W w.heap.size 0 (.int .i64 (b.1 : Int))) (.inr fun e => by have := hlt _ e; omega)
    have g2 := OwnK.grown g1 (grown_setAny _ (w.heap.size + 1) 0 (.slice A b.2.length c)) (.inr fun e => by have := hlt _ e; omega)
    exact OwnK.below g2 (Below.refl _ _).drew
   refine ⟨?_, rfl, b, _, h1, e0, e1, e2, ?_⟩
   ·rw [hW5]; exact (((KeepsOthers.setCell _ _ _).trans (KeepsOthers.setCell _ _ _)).trans (KeepsOthers.drew _)).from _
   ·rw [hW5]; exact h7.trans ((((Below.refl _ _).setCell (p := ⟨w.heap.size, 0, none⟩) (Nat.le_refl _) _).setCell (p := ⟨w.heap.size + 1, 0, none⟩) (Nat.le_succ _) _).drew))
  clear h1 h2 h3 h4 h5 h6 h7
  gi_wp2
  gi_region_with_o (fail)
  all_goals gi_wp2
  all_goals (rw [hW5] at HEND; exact HEND.out)
 case done =>
  intro hh D W hD hbW hK
  have ho : o = none := by cases o <;> simp_all
  have h4 := H0.out.1.below hbW H0.out.1.lt
  have h5 := H0.out.2.below hbW H0.out.2.lt
  have c0 := (h4.cell 0).trans rfl
  have c1 := (h5.cell 0).trans rfl
  have f0 := h4.frozen 0
  have f1 := h5.frozen 0
  have hlt4 := h4.lt
  have hDn : w.heap.size + 2 ≤ D := by have := HS2.out; omega
  obtain ⟨W5, hW5⟩ : ∃ W5, W5 = (W.setCell ⟨w.heap.size, 0, none⟩ (.int .i64 0)).setCell ⟨w.heap.size + 1, 0, none⟩ (.slice none 0 0) := ⟨_, rfl⟩
  have e0 : Blk W5 w.heap.size 31 #[.int .i64 0] := by
   rw [hW5]
   have h := (h4.set_ 0 (.int .i64 0)).far (p := ⟨w.heap.size + 1, 0, none⟩) (by show w.heap.size ≠ w.heap.size + 1; omega) (.slice none 0 0)
   simpa using h
  have e1 : Blk W5 (w.heap.size + 1) 50 #[.slice none 0 0] := by
   rw [hW5]
   have h := (h5.far (p := ⟨w.heap.size, 0, none⟩) (by show w.heap.size + 1 ≠ w.heap.size; omega) (.int .i64 0)).set_ 0 (.slice none 0 0)
   simpa using h
  have eD : W5.heap[D]? = some (.deferred (some [])) := by
   rw [hW5, Below.heap_setCell _ _ _ _ (by show D ≠ w.heap.size + 1; omega), Below.heap_setCell _ _ _ _ (by show D ≠ w.heap.size; omega)]
   exact hK
  have hW5b : Below w.heap.size w W5 := by
   rw [hW5]
   exact (HB2.out.trans (hbW.mono HB2.out.size)).trans (((Below.refl _ _).setCell (p := ⟨w.heap.size, 0, none⟩) (Nat.le_refl _) _).setCell (p := ⟨w.heap.size + 1, 0, none⟩) (Nat.le_succ _) _)
  have HEND := Lib.hid (And.intro e0 (And.intro e1 (And.intro eD hW5b)))
  have HW5 := Lib.hid hW5
  have HO := Lib.hid ho
  have HDN := Lib.hid hDn
  clear h4 h5 hlt4 hDn e0 e1 eD hW5b hW5 ho hh hbW
  gi_wp2
  rw [← HW5.out]
  refine ⟨by simp, .inl ⟨_, _, rfl, run_takeDeferred HEND.out.2.2.1, ?_⟩⟩
  have hob : ∀ {g t : Nat} {cs : Array Value}, Blk W5 g t cs → Blk (W5.putObj D (.deferred none)) g t cs := fun h => h.obj (row := some D) (grownBy_putObj' W5 D _) (fun r e => by cases e; exact ⟨_, HEND.out.2.2.1, rfl⟩)
  refine ⟨_, results_fst (B := w.heap.size) rfl rfl (hob HEND.out.1) (hob HEND.out.2.1), .slice none 0 0, by rw [HO.out]; rfl, ?_, ?_⟩
  ·rw [HO.out]; exact WayV.nil _ _ _ _
  ·exact HEND.out.2.2.2.trans (below_put _ _ _ (by have := HDN.out; omega))
 case stop =>
  rintro hh D c W hD ⟨rfl, b, v, h2, h3, h4, h5, h6⟩ hK
  have hDn : w.heap.size + 2 ≤ D := by have := HS2.out; omega
  have hob : ∀ {g t : Nat} {cs : Array Value}, Blk W g t cs → Blk (W.putObj D (.deferred none)) g t cs := fun h => h.obj (row := some D) (grownBy_putObj' W D _) (fun r e => by cases e; exact ⟨_, hK, rfl⟩)
  gi_wp2
  refine ⟨by simp, .inl ⟨_, _, rfl, run_takeDeferred hK, ?_⟩⟩
  refine ⟨_, results_fst (B := w.heap.size) rfl rfl (hob h3) (hob h4), v, by rw [h2]; rfl, ?_, ?_⟩
  ·rw [h2]
   exact (h5.obj (row := some D) (grownBy_putObj' W D _) (fun r e => by cases e; exact ⟨_, hK, rfl⟩)).way
  ·exact h6.trans (below_put _ _ _ (by omega))
end Go.Proofs.YtodlhgflfcadmaaGreat
