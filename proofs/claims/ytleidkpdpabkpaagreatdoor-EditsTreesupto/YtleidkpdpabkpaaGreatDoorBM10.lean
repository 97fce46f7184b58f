/- PakNum PakMem EdtRefC -/
import Derived.Test.YtleidkpdpabkpaaGreatDoorBM9
set_option linter.unusedSimpArgs false
set_option linter.unusedVariables false
set_option maxRecDepth 100000
set_option maxHeartbeats 8000000
namespace Go.Proofs.YtleidkpdpabkpaaGreatDoor
open Go.RowKit
def geT (n : Nat) : Fo → Prop
 | .nil => True
 | .cons t _ _ r => n ≤ t ∧ geT n r
theorem geT.mono {m n : Nat} (h : m ≤ n) : ∀ {f : Fo}, geT n f → geT m f := by
 intro f
 induction f with
 | nil => intro _; trivial
 | cons t d k r _ ih => intro ⟨h1, h2⟩; exact ⟨by omega, ih h2⟩
theorem geT.app {n : Nat} : ∀ {f g : Fo}, geT n f → geT n g → geT n (f.app g) := by
 intro f
 induction f with
 | nil => intro g _ h; exact h
 | cons t d k r _ ih => intro g ⟨h1, h2⟩ h; exact ⟨h1, ih h2 h⟩
def plB : SpF → Bool
 | .nil => true
 | .cons d s r => (decide (d.kind = 1) || (decide (d.kind = 3) && plB s)) && (findX d.name r).isNone && plB r
def fitA (F : NdF → Prop) (d : SpD) : NdF → Prop
 | .nil => True
 | .cons a k r => (a.name = d.name → rgtF k = true ∧ (if d.kind = 1 then a.key = [] ∧ rightX d (vlOf a) = true ∧ k = .nil else identX a.key = true ∧ F k)) ∧ fitA F d r
def FitF : SpF → NdF → Prop
 | .nil, _ => True
 | .cons d s r, f => (d.kind = 1 ∨ d.kind = 3) ∧ fitA (fun k => FitF s k) d f ∧ FitF r f
theorem scan_mem : ∀ {f : NdF} {s : SpF} {c : List Nat}, scanF f s c = none → ∀ i a k, f.get? i = some (a, k) → ∀ j y, findX a.name s = some j → s.get? j = some y → ∃ n, kidX1 y a k n = none := by
 intro f
 induction f with
 | nil => intro s c _ i a k h; cases h
 | cons b q r _ ih =>
  intro s c h i a k hi j y hj hy
  cases hf : findX b.name s with
  | none => rw [scan_name hf] at h; cases h
  | some m =>
   obtain ⟨z, hz, _, _⟩ := sp_get hf
   rw [scan_cons hf hz] at h
   cases hkd : kidX1 z b q (c.getD m 0) with
   | some e => rw [hkd] at h; cases h
   | none =>
    rw [hkd] at h
    cases i with
    | zero =>
     injection hi with hi
     injection hi with e1 e2
     subst e1 e2
     rw [hf] at hj
     injection hj with hj
     subst hj
     rw [hz] at hy
     injection hy with hy
     subst hy
     exact ⟨_, hkd⟩
    | succ i => exact ih h i a k hi j y hj hy
theorem fitA_of {F : NdF → Prop} {d : SpD} : ∀ {f : NdF}, (∀ i a k, f.get? i = some (a, k) → a.name = d.name → rgtF k = true ∧ (if d.kind = 1 then a.key = [] ∧ rightX d (vlOf a) = true ∧ k = .nil else identX a.key = true ∧ F k)) → fitA F d f := by
 intro f
 induction f with
 | nil => intro _; trivial
 | cons a k r _ ih => intro h; exact ⟨h 0 a k rfl, ih fun i b q hi => h (i + 1) b q hi⟩
theorem fit_of : ∀ (s : SpF) (f : NdF), plB s = true → rgtF f = true → (∀ i a k, f.get? i = some (a, k) → ∀ j y, findX a.name s = some j → s.get? j = some y → ∃ n, kidX1 y a k n = none) → FitF s f := by
 intro s
 induction s with
 | nil => intro f _ _ _; trivial
 | cons d q r ihk ihr =>
  intro f hp hr H
  simp only [plB, Bool.and_eq_true, Bool.or_eq_true, decide_eq_true_eq] at hp
  obtain ⟨⟨hp1, hp2⟩, hp3⟩ := hp
  refine ⟨hp1.elim .inl (fun h => .inr h.1), fitA_of fun i a k hi hn => ?_, ihr f hp3 hr fun i a k hi j y hj hy => ?_⟩
  ·obtain ⟨n, hn0⟩ := H i a k hi 0 (d, q) (by rw [hn]; simp [findX]) rfl
   have hlt := Fr.get_lt hi
   have hok := right_at.1 hr i hlt
   unfold okAt at hok
   rw [hi] at hok
   simp only [Bool.and_eq_true] at hok
   have hx := hok.1
   unfold kidX1 at hn0
   cases hh : headX d a k n with
   | some e => rw [hh] at hn0; cases hn0
   | none =>
    rw [hh] at hn0
    simp only at hn0
    unfold headX at hh
    by_cases h1 : d.kind = 1
    ·rw [if_pos h1] at hh
     have hl : leafB d a k = true := by
      cases hb : leafB d a k with
      | true => rfl
      | false => rw [hb] at hh; cases hh
     simp only [leafB, Bool.and_eq_true, decide_eq_true_eq] at hl
     have hk0 : k = .nil := by
      cases k with
      | nil => rfl
      | cons b x y => have := hl.1.2; simp [Fr.len] at this
     rw [if_pos h1]
     exact ⟨by rw [hk0]; rfl, hl.1.1, hl.2, hk0⟩
    ·have h3 : d.kind = 3 := hp1.elim (fun h => absurd h h1) (fun h => h.1)
     rw [if_neg h1, if_pos h3] at hh
     rw [if_neg h1] at hn0
     have hid : a.kind = 0 ∧ identX a.key = true := by
      by_cases h0 : a.kind ≠ 0 ∨ identX a.key = false
      ·rw [if_pos h0] at hh; cases hh
      ·refine ⟨Classical.byContradiction fun h => h0 (.inl h), ?_⟩
       cases hb : identX a.key with
       | true => rfl
       | false => exact absurd (.inr hb) h0
     unfold rgtX at hx
     rw [if_neg (by simp [hid.1])] at hx
     simp only [Bool.and_eq_true, decide_eq_true_eq] at hx
     rw [if_neg h1]
     have hpq : plB q = true := hp1.elim (fun h => absurd h h1) (fun h => h.2)
     exact ⟨hx.2, hid.2, ihk k hpq hx.2 (scan_mem hn0)⟩
  ·have hne : ¬ d.name = a.name := by
    intro e
    rw [e, hj] at hp2
    cases hp2
   exact H i a k hi (j + 1) y (by simp [findX, hne, hj]) hy
theorem root_pl (v : Int) : plB (rootX v).1.2 = true := by
 unfold rootX
 split
 ·rfl
 ·rename_i h
  have h' : v = 1 ∨ v = 2 ∨ v = 3 := by omega
  rcases h' with rfl | rfl | rfl <;> decide
theorem may_fit {v : Int} {x : Nd} (h : MayX v x = true) : FitF (rootX v).1.2 x.2 ∧ rgtF x.2 = true := by
 have hc : (CheckX v x).1 = 0 := of_decide_eq_true h
 unfold CheckX at hc
 by_cases h1 : (rootX v).2 ≠ 0
 ·rw [if_pos h1] at hc; exact absurd hc h1
 ·rw [if_neg h1] at hc
  by_cases h2 : rootB x = false
  ·rw [if_pos h2] at hc; cases hc
  ·rw [if_neg h2] at hc
   have h3 : rootB x = true := by simpa using h2
   simp only [rootB, Bool.and_eq_true, decide_eq_true_eq] at h3
   have hr : rgtF x.2 = true := by
    have h4 := h3.1
    unfold rgtX at h4
    rw [h3.2] at h4
    simpa using h4
   cases hs : insideX (rootX v).1.2 x.2 with
   | some b =>
    rw [hs] at hc
    have := (scan_err hs).1
    simp only at hc
    omega
   | none => exact ⟨fit_of _ _ (root_pl v) hr (scan_mem hs), hr⟩
section
variable {D : World → (Nat → Prop) → Value → List UInt8 → Prop} {e : TypeId} {w w' : World} {base : Nat} {v : Value} {f : Fo}
theorem OwnF.mono {base' : Nat} (h : OwnF D e w base' v f) (hD : Stays D) (hb : base ≤ base') : OwnF D e w base v f := by
 obtain ⟨xs, h1, h2⟩ := h
 exact ⟨xs, World.ownsRow.mono h1 hb, h2.kept hD (fun _ _ => rfl) (fun g hg => ⟨Nat.le_trans hb hg.1, hg.2⟩)⟩
theorem OwnF.shape (h : OwnF D e w base v f) : ∃ A c, v = .slice A f.len c := by
 obtain ⟨xs, h1, _⟩ := h
 rcases h1.2 with ⟨rfl, h0⟩ | ⟨g, cap, cur, rfl, _⟩
 ·exact ⟨none, 0, by rw [h0]⟩
 ·exact ⟨_, cap, rfl⟩
theorem OwnF.ne {g : Nat} {t : TypeId} {cs : Array Value} (h : OwnF D e w base v f) (hb : Blk w g t cs) (ht : t ≠ e) : v.ownBlock ≠ some g := by
 obtain ⟨xs, h1, _⟩ := h
 rcases h1.2 with ⟨rfl, _⟩ | ⟨g', cap, cur, rfl, _, hg, _⟩
 ·intro h; cases h
 ·intro h
  injection h with h
  subst h
  have := hg.symm.trans hb
  injection this with this
  injection this with _ h2
  exact ht h2.symm
theorem rowOf.len_ {S : Nat → Prop} : ∀ {f : Fo} {xs : List Value}, rowOf D w S xs f → xs.length = f.len * 3 := by
 intro f
 induction f with
 | nil => intro xs h; rw [h.nil_]; simp [Fo.len]
 | cons t d k r _ ih =>
  intro xs h
  obtain ⟨a, b, c, ys, rfl, _, _, _, _, h5⟩ := h.cons_
  have := ih h5
  simp only [List.length_cons, Fo.len, this]
  omega
theorem rowOf.init_ {S : Nat → Prop} {t : Nat} {d : List UInt8} {k : Fo} : ∀ {f : Fo} {xs : List Value}, rowOf D w S xs (f.app (.cons t d k .nil)) → ∃ ys a b c, xs = ys ++ [a, b, c] ∧ rowOf D w S ys f := by
 intro f
 induction f with
 | nil =>
  intro xs h
  obtain ⟨a, b, c, ys, rfl, _, _, _, _, h5⟩ := h.cons_
  have h6 : rowOf D w S ys .nil := h5
  rw [h6.nil_]
  exact ⟨[], a, b, c, rfl, trivial⟩
 | cons t' d' k' r _ ih =>
  intro xs h
  obtain ⟨a, b, c, zs, rfl, h1, h3, h4, h5, h6⟩ := rowOf.cons_ (k := k') (r := r.app (.cons t d k .nil)) h
  obtain ⟨ys, x, y, z, rfl, h7⟩ := ih h6
  exact ⟨a :: b :: c :: ys, x, y, z, rfl, h1, h3, h4, h5, h7⟩
end
def set3o (w : World) (b o : Nat) (x0 x1 x2 : Value) : World := ((w.setCell ⟨b, o, none⟩ x0).setCell ⟨b, o + 1, none⟩ x1).setCell ⟨b, o + 2, none⟩ x2
theorem set3o_size (w : World) (b o : Nat) (x0 x1 x2 : Value) : (set3o w b o x0 x1 x2).heap.size = w.heap.size := by simp [set3o, World.setCell]
theorem set3o_far {w : World} {b o g : Nat} {x0 x1 x2 : Value} (h : g ≠ b) : (set3o w b o x0 x1 x2).heap[g]? = w.heap[g]? := by
 unfold set3o
 rw [Below.heap_setCell _ _ _ _ h, Below.heap_setCell _ _ _ _ h, Below.heap_setCell _ _ _ _ h]
theorem set_last {α : Type} (ys : List α) (a b c x y z : α) : (((ys ++ [a, b, c]).set ys.length x).set (ys.length + 1) y).set (ys.length + 2) z = ys ++ [x, y, z] := by
 induction ys with
 | nil => rfl
 | cons p ys ih => simp
theorem OwnF.last {D : World → (Nat → Prop) → Value → List UInt8 → Prop} (hD : Stays D) {e : TypeId} {w : World} {base g c n : Nat} {f : Fo} {t0 t : Nat} {d0 d : List UInt8} {k0 k : Fo} {dv kv : Value} (hn : n = f.len + 1)
  (h : OwnF D e w base (.slice (some ⟨g, 0, none⟩) n c) (f.app (.cons t0 d0 k0 .nil))) (ht : t < 18446744073709551616) (hd : D w (ItsI base w (.slice (some ⟨g, 0, none⟩) n c)) dv d) (hk : FV D w (ItsI base w (.slice (some ⟨g, 0, none⟩) n c)) kv k) :
  OwnF D e (set3o w g (f.len * 3) (.int .u64 (t : Int)) dv kv) base (.slice (some ⟨g, 0, none⟩) n c) (f.app (.cons t d k .nil)) := by
 subst hn
 obtain ⟨xs, h1, h2⟩ := h
 obtain ⟨ys, a, b, c', rfl, h3⟩ := h2.init_
 have hl := h3.len_
 have hlen : (f.app (.cons t0 d0 k0 .nil)).len = f.len + 1 := by rw [Fo.len_app]; rfl
 have hlen' : (f.app (.cons t d k .nil)).len = f.len + 1 := by rw [Fo.len_app]; rfl
 rw [hlen] at h1
 have s1 := (World.ownsRow.stored h1 (f.len * 3) (.int .u64 (t : Int))).1
 have s2 := (World.ownsRow.stored s1 (f.len * 3 + 1) dv).1
 have s3 := (World.ownsRow.stored s2 (f.len * 3 + 2) kv).1
 have e1 : ((((ys ++ [a, b, c']).set (f.len * 3) (.int .u64 (t : Int))).set (f.len * 3 + 1) dv).set (f.len * 3 + 2) kv) = ys ++ [.int .u64 (t : Int), dv, kv] := by rw [← hl]; exact set_last ys a b c' _ _ _
 rw [e1] at s3
 have hkeep : ∀ x, ItsI base w (.slice (some ⟨g, 0, none⟩) (f.len + 1) c) x → (set3o w g (f.len * 3) (.int .u64 (t : Int)) dv kv).heap[x]? = w.heap[x]? := fun x hx => set3o_far (fun e => hx.2.2 (by rw [e]; rfl))
 have hS : ∀ x, ItsI base w (.slice (some ⟨g, 0, none⟩) (f.len + 1) c) x → ItsI base (set3o w g (f.len * 3) (.int .u64 (t : Int)) dv kv) (.slice (some ⟨g, 0, none⟩) (f.len + 1) c) x := fun x hx => ⟨hx.1, by rw [set3o_size]; exact hx.2.1, hx.2.2⟩
 refine ⟨ys ++ [.int .u64 (t : Int), dv, kv], by rw [hlen']; exact s3, ?_⟩
 exact rowOf.snoc rfl ht (hD _ _ _ _ _ _ hkeep hS hd) (hk.kept hD hkeep hS) (h3.kept hD hkeep hS)
def ManyF (D : World → (Nat → Prop) → Value → List UInt8 → Prop) (e : TypeId) (w : World) (base : Nat) (v : Value) (f : Fo) (v' : Value) (w' : World) : Prop :=
 OwnF D e w' base v' f ∧ w.grownBy w' v.ownBlock ∧ (v'.ownBlock = v.ownBlock ∨ v'.ownBlock = some w.heap.size)
theorem ManyF.below {D : World → (Nat → Prop) → Value → List UInt8 → Prop} {e : TypeId} {w w' : World} {base : Nat} {v v' : Value} {f f0 : Fo} (h : ManyF D e w base v f v' w') (hown : OwnF D e w base v f0) (hb : base ≤ w.heap.size) : Below base w w' :=
 (Below.refl _ _).grown h.2.1 hb fun k e => (hown.lt k e).1
section
attribute [local go_sem] Oper.semAt_some
theorem itm_take18 (L : Nat → List UInt8) {a : NdD} {q : NdF} : ∀ {f : NdF} {j : Nat}, f.get? j = some (a, q) → itmF18 L (Fr.take (j + 1) f) = (itmF18 L (Fr.take j f)).app (.cons 7 [] (inI18 L a (itmF18 L q)) .nil) := by
 intro f
 induction f with
 | nil => intro j h; cases h
 | cons b k r _ ih =>
  intro j h
  cases j with
  | zero => injection h with h; injection h with h1 h2; subst h1 h2; rfl
  | succ j => simp only [Fr.take, itmF18, Fo.app]; rw [ih h]
theorem itm_len18 (L : Nat → List UInt8) (f : NdF) : (itmF18 L f).len = f.len := by
 induction f with
 | nil => rfl
 | cons a k r _ ih => simp only [itmF18, Fo.len, Fr.len, ih]
theorem take_len18 : ∀ (j : Nat) (f : NdF), (Fr.take j f).len ≤ j := by
 intro j
 induction j with
 | zero => intro f; cases f <;> exact Nat.le_refl 0
 | succ j ih => intro f; cases f with | nil => exact Nat.zero_le _ | cons a k r => exact Nat.succ_le_succ (ih r)
theorem inI_app18 (L : Nat → List UInt8) (a : NdD) (r : Fo) : inI18 L a r = (inI18 L a .nil).app r := by
 unfold inI18 keyI18 valI18
 split <;> split <;> rfl
theorem inI_len18 (L : Nat → List UInt8) (a : NdD) : (inI18 L a .nil).len ≤ 3 := by
 unfold inI18 keyI18 valI18
 split <;> split <;> simp [Fo.len]
def St18 (w : World) (a : NdD) (f : NdF) (A : Option Addr) (c : Nat) (u : Value) (F : Fo) (W : World) : Prop :=
 Blk W w.heap.size 42 (cN a (.slice A f.len c)) ∧ Blk W (w.heap.size + 1) 79 #[.int .u64 0, .string ⟨#[]⟩, .slice none 0 0] ∧ OwnF DataR 79 W (w.heap.size + 2) u F ∧ Below w.heap.size w W ∧ w.heap.size + 2 ≤ W.heap.size
theorem St18.go {w : World} {a : NdD} {f : NdF} {A : Option Addr} {c : Nat} {u : Value} {F : Fo} {W W' : World} (h : St18 w a f A c u F W) (hb : Below W.heap.size W W') : St18 w a f A c u F W' :=
 ⟨h.1.below hb h.1.lt, h.2.1.below hb h.2.1.lt, h.2.2.1.below stays_R hb, h.2.2.2.1.trans (hb.mono h.2.2.2.1.size), Nat.le_trans h.2.2.2.2 hb.size⟩
theorem St18.app {w : World} {a : NdD} {f : NdF} {A : Option Addr} {c : Nat} {u v' : Value} {F G : Fo} {W w' : World} (h : St18 w a f A c u F W) (hap : AppF DataR 79 W (w.heap.size + 2) u G v' w') : St18 w a f A c v' G w' := by
 obtain ⟨h1, h2, h3, h4, h5⟩ := h
 have n1 : ∀ g, g < w.heap.size + 2 → some g ≠ u.ownBlock := fun g hg e => by have := (h3.lt g e.symm).1; omega
 have hb := hap.below h3 h5
 exact ⟨h1.grown hap.2.1 (n1 _ (by omega)), h2.grown hap.2.1 (n1 _ (by omega)), hap.1, h4.trans (hb.mono (by omega)), Nat.le_trans h5 hap.2.1.size⟩
theorem OwnF.lit18 {w : World} {base g t : Nat} {d : List UInt8} (hb : Blk w g 79 #[.int .u64 (t : Int), .string (txt d), .slice none 0 0]) (hg : base ≤ g) (ht : t < 18446744073709551616) : OwnF DataR 79 w base (.slice (some ⟨g, 0, none⟩) 1 1) (.cons t d .nil .nil) :=
 ⟨[.int .u64 (t : Int), .string (txt d), .slice none 0 0], ⟨rfl, .inr ⟨g, 1, _, rfl, hg, hb, Nat.le_refl _, by decide, rfl, rfl⟩⟩, ⟨rfl, ht, rfl, FV.nil _ _, trivial⟩⟩
def ItmP18 (t : Nat) (F : Fo) (w : World) (r : Ending) (w' : World) : Prop := ∃ A c, r = .returned (.agg #[.int .u64 (t : Int), .string ⟨#[]⟩, .slice A F.len c]) ∧ FV DataR w' (MineI w.heap.size w') (.slice A F.len c) F ∧ Below w.heap.size w w'
def ItemP18 (f : NdF) : Prop := ∀ (t : Nat) (a : NdD) (A : Option Addr) (c : Nat) (w : World), t < 18446744073709551616 → RowT w.heap.size w (.slice A f.len c) f → f.size ≤ 1000000 → OkD a → OkF f → okN18 (a, f) = true →
  Calls Tryz.prog 40 #[.int .u64 (t : Int), .agg (cN a (.slice A f.len c))] w (ItmP18 t (inI18 leastB a (itmF18 leastB f)) w)
theorem lit2_18 (w : World) (b d : UInt8) : Rd (w.alloc (.cells #[byteV b, byteV d] 5)) w.heap.size (.slice (some ⟨w.heap.size, 0, none⟩) 2 2) [b, d] :=
 Rd.of_blk (l := [b, d]) (Blk.new w 5 _) (by simp)
theorem byte_kind18 {k : Int} (h0 : 0 ≤ k) (h1 : k ≤ 255) : IntKind.u8.wrap k = (((UInt8.ofNat k.toNat).toNat : Nat) : Int) := by
 have : k.toNat < 256 := by omega
 rw [UInt8.toNat_ofNat', Nat.mod_eq_of_lt this, Go.IntWalk.u8_in k (by omega)]
 omega
end
end Go.Proofs.YtleidkpdpabkpaaGreatDoor
