/- SpcRefF SpcRefG Law07A Lies PthRefB PthRefC EdtRefK -/
import Derived.Test.YtleidkpdpabkpaaGreatDoorBM15
set_option linter.unusedSimpArgs false
set_option linter.unusedVariables false
set_option maxRecDepth 100000
set_option maxHeartbeats 8000000
namespace Go.Proofs.YtleidkpdpabkpaaGreatDoor
open Go.RowKit
theorem rroot_no (v : Int) (h : v < 1 ∨ 3 < v) (w : World) : Calls Tryz.prog 65 #[.int .i64 v] w (RSpP (rootX v) w) := by
 have HX : Hid (rootX v = ((zeroD, .nil), 28)) := hHd (by unfold rootX; rw [if_pos h])
 rcases h with h | h
 ·go_enter Tryz.func65, Tryz.ntmps65
  go_wp2
  refine bodyPost_ret (res_cell_tmp rfl _ _ w.heap.size 109 _ (0, 0) _ rfl (heap_alloc_new w _) Tryz.underlying109 rfl (by kernel_rfl)) rfl ?_
  exact ⟨spC zeroD (.slice none 0 0) (.slice none 0 0), by rw [HX.out]; rfl, by rw [HX.out]; exact leaf_n rfl, bAl⟩
 ·have h1 : ¬ v < 1 := by omega
  go_enter Tryz.func65, Tryz.ntmps65
  go_wp2
  refine bodyPost_ret (res_cell_tmp rfl _ _ w.heap.size 109 _ (0, 0) _ rfl (heap_alloc_new w _) Tryz.underlying109 rfl (by kernel_rfl)) rfl ?_
  exact ⟨spC zeroD (.slice none 0 0) (.slice none 0 0), by rw [HX.out]; rfl, by rw [HX.out]; exact leaf_n rfl, bAl⟩
theorem rroot_any (v : Int) (w : World) : Calls Tryz.prog 65 #[.int .i64 v] w (RSpP (rootX v) w) := by
 by_cases h : v < 1 ∨ 3 < v
 ·exact rroot_no v h w
 ·have h2 : v = 1 ∨ v = 2 ∨ v = 3 := by omega
  rcases h2 with rfl | rfl | rfl
  ·exact rroot_1 w
  ·exact rroot_2 w
  ·exact rroot_3 w
theorem SpN.under {w w' : World} {S N : Nat → Prop} {cs : List Value} {x : Sp} (h : SpN w S N cs x) (hb : Below w.heap.size w w') (hS : ∀ g, S g → g < w.heap.size) (hN : ∀ g, N g → g < w.heap.size) : SpN w' S N cs x :=
 h.kept stay_spc (fun g hg => hb.block g (hS g hg)) (fun _ h => h) (fun g hg => hb.block g (hN g hg)) (fun _ h => h)
theorem SpN.apart {w w' : World} {S N : Nat → Prop} {cs : List Value} {x : Sp} (h : SpN w S N cs x) (hS : ∀ g, S g → w'.heap[g]? = w.heap[g]?) (hN : ∀ g, N g → w'.heap[g]? = w.heap[g]?) : SpN w' S N cs x :=
 h.kept stay_spc hS (fun _ h => h) hN (fun _ h => h)
theorem NewSp.under {base : Nat} {w w' : World} {cs : List Value} {x : Sp} (h : NewSp base w cs x) (hb : Below w.heap.size w w') : NewSp base w' cs x := by
 obtain ⟨S, N, hS, hN, h⟩ := h
 exact ⟨S, N, fun g hg => (hS g hg).below hb, fun g hg => ⟨(hN g hg).1.below hb, (hN g hg).2⟩, h.under hb (fun g hg => (hS g hg).lt) (fun g hg => (hN g hg).1.lt)⟩
theorem NewSp.shape {base : Nat} {w : World} {cs : List Value} {x : Sp} (h : NewSp base w cs x) : ∃ B m A c, cs = [.string (txt x.1.name), .int .i64 (x.1.kind : Int), .int .i64 (x.1.typ : Int), .int .u64 (x.1.low : Int), .int .u64 (x.1.high : Int), .slice B x.1.names.length m, .bool x.1.must, .int .i64 (x.1.most : Int), .slice A x.2.len c] := by
 obtain ⟨S, N, hS, hN, h⟩ := h
 obtain ⟨B, m, A, c, d, e, _⟩ := h.shape
 exact ⟨B, m, A, c, e⟩
def Lies (w : World) (cs : List Value) (x : Sp) : Prop := ∃ S N, (∀ g, S g → g < w.heap.size) ∧ (∀ g, N g → g < w.heap.size) ∧ SpN w S N cs x
theorem Lies.below {w w' : World} {cs : List Value} {x : Sp} (h : Lies w cs x) (hb : Below w.heap.size w w') : Lies w' cs x := by
 obtain ⟨S, N, hS, hN, h⟩ := h
 exact ⟨S, N, fun g hg => Nat.lt_of_lt_of_le (hS g hg) hb.size, fun g hg => Nat.lt_of_lt_of_le (hN g hg) hb.size, h.under hb hS hN⟩
theorem Lies.shape {w : World} {cs : List Value} {x : Sp} (h : Lies w cs x) : ∃ B m A c, cs = [.string (txt x.1.name), .int .i64 (x.1.kind : Int), .int .i64 (x.1.typ : Int), .int .u64 (x.1.low : Int), .int .u64 (x.1.high : Int), .slice B x.1.names.length m, .bool x.1.must, .int .i64 (x.1.most : Int), .slice A x.2.len c] := by
 obtain ⟨S, N, hS, hN, h⟩ := h
 obtain ⟨B, m, A, c, d, e, _⟩ := h.shape
 exact ⟨B, m, A, c, e⟩
theorem NewSp.lies {base : Nat} {w : World} {cs : List Value} {x : Sp} (h : NewSp base w cs x) : Lies w cs x := by
 obtain ⟨S, N, hS, hN, h⟩ := h
 exact ⟨S, N, fun g hg => (hS g hg).lt, fun g hg => (hN g hg).1.lt, h⟩
def Few (x : Sp) : Prop := x.2.size ≤ 1000 ∧ x.1.names.length ≤ 3 ∧ x.2.len ≤ 7 ∧ ∀ y ∈ inner x.2, y.1.names.length ≤ 3
def LieSp (x : Sp × Nat) (w : World) (r : Ending) (w' : World) : Prop := ∃ cs, r = .returned (.tuple #[.agg cs.toArray, .int .i64 (x.2 : Int)]) ∧ Lies w' cs x.1 ∧ Below w.heap.size w w'
theorem RSpP.lie {x : Sp × Nat} {w : World} {r : Ending} {w' : World} (h : RSpP x w r w') : LieSp x w r w' := by
 obtain ⟨cs, e, h, hb⟩ := h
 exact ⟨cs, e, ⟨_, _, fun g hg => hg.2, fun g hg => hg.2, h⟩, hb⟩
theorem SpP.lie {x : Sp × Nat} {w : World} {r : Ending} {w' : World} (h : SpP x w r w') : LieSp x w r w' := by
 obtain ⟨cs, e, h, hb⟩ := h
 exact ⟨cs, e, h.lies, hb⟩
def InV (v : Int) (x : Sp) : Prop := x = (rootD, rootF v.toNat) ∨ x ∈ inner (rootF v.toNat)
theorem InV.get {v : Int} {x y : Sp} {i : Nat} (h : InV v x) (hg : x.2.get? i = some y) : InV v y := by
 have hy := inner_get hg
 rcases h with rfl | h
 ·exact .inr hy
 ·exact .inr (inner_in h hy)
theorem PrL_next {s : List UInt8} {o : List Stp} {f a a' : Nat} {x : Stp} (h : parseX15 s = runX f (o ++ [x]) a' (s.drop a')) (h2 : s.length ≤ a + f + 1) (h3 : a < a') (h4 : o.length ≤ 6) (h5 : o.length ≠ 6) : ∃ f, parseX15 s = runX f (o ++ [x]) a' (s.drop a') ∧ s.length ≤ a' + f ∧ (o ++ [x]).length ≤ 6 :=
 ⟨f, h, by omega, by rw [List.length_append]; simp; omega⟩
theorem own_snoc {base : Nat} {w' : World} {v' : Value} {o : List Stp} {x : Stp} (h : OwnK 52 2 w' base v' (o.length + 1) (stC o ++ [.string (txt x.1), .string (txt x.2)])) : OwnS base w' v' (o ++ [x]) := by
 show OwnK 52 2 w' base v' (o ++ [x]).length (stC (o ++ [x]))
 rw [List.length_append, stC_app]
 exact h
def PrsP (x : List Stp × Nat × Nat) (w : World) (r : Ending) (w' : World) : Prop := ∃ v, r = .returned (.tuple #[v, .int .i64 (x.2.1 : Int), .int .i64 (x.2.2 : Int)]) ∧ WayV w'.heap.size w' v x.1 ∧ Below w.heap.size w w'
theorem PrsP.bad {s : List UInt8} {e p : Nat} {w w' : World} {i : Int} (h : parseX15 s = ([], e, p)) (hi : i = (p : Int)) (hb : Below w.heap.size w w') : PrsP (parseX15 s) w (.returned (.tuple #[.slice none 0 0, .int .i64 (e : Int), .int .i64 i])) w' := by
 rw [h, hi]
 exact ⟨_, rfl, WayV.nil _ _ _ _, hb⟩
def WayN15 (lo : Nat) (w : World) (v : Value) (l : List Stp) : Prop := ∃ A c, v = .slice A l.length c ∧ l.length ≤ c ∧ (0 < l.length → ∃ g o, A = some ⟨g, o, none⟩ ∧ (lo ≤ g ∧ g < w.heap.size) ∧
 ∀ j s, l[j]? = some s → w.cell? ⟨g, o + j * 2, none⟩ = some (.string (txt s.1)) ∧ w.cell? ⟨g, o + j * 2 + 1, none⟩ = some (.string (txt s.2)))
theorem WayN15.way {lo : Nat} {w : World} {v : Value} {l : List Stp} (h : WayN15 lo w v l) : WayV w.heap.size w v l := by
 obtain ⟨A, c, rfl, h1, h2⟩ := h
 refine ⟨A, c, rfl, h1, fun hp => ?_⟩
 obtain ⟨g, o, e, h3, h4⟩ := h2 hp
 exact ⟨g, o, e, h3.2, h4⟩
theorem WayN15.nil (lo : Nat) (w : World) : WayN15 lo w (.slice none 0 0) [] := ⟨none, 0, rfl, Nat.le_refl _, fun h => absurd h (by simp)⟩
theorem OwnS.wayN {base : Nat} {w : World} {v : Value} {l : List Stp} (h : OwnS base w v l) : WayN15 base w v l := by
 obtain ⟨d, ⟨h0, A, c, rfl, h1, h2⟩, hd⟩ := OwnK.row h
 refine ⟨A, c, rfl, h1, fun hp => ?_⟩
 obtain ⟨hlt, off, rfl, hc⟩ := h2 hp
 refine ⟨d, off, rfl, ⟨hd hp, hlt⟩, fun j s hs => ?_⟩
 obtain ⟨g1, g2⟩ := stC_at l j s hs
 exact ⟨hc _ _ g1, by have := hc _ _ g2; rwa [← Nat.add_assoc] at this⟩
def PrsN (x : List Stp × Nat × Nat) (w : World) (r : Ending) (w' : World) : Prop := ∃ v, r = .returned (.tuple #[v, .int .i64 (x.2.1 : Int), .int .i64 (x.2.2 : Int)]) ∧ WayN15 w.heap.size w' v x.1 ∧ Below w.heap.size w w'
theorem PrsN.p {x : List Stp × Nat × Nat} {w : World} {r : Ending} {w' : World} (h : PrsN x w r w') : PrsP x w r w' := by
 obtain ⟨v, h1, h2, h3⟩ := h
 exact ⟨v, h1, h2.way, h3⟩
theorem PrsN.bad {s : List UInt8} {e p : Nat} {w w' : World} {i : Int} (h : parseX15 s = ([], e, p)) (hi : i = (p : Int)) (hb : Below w.heap.size w w') : PrsN (parseX15 s) w (.returned (.tuple #[.slice none 0 0, .int .i64 (e : Int), .int .i64 i])) w' := by
 rw [h, hi]
 exact ⟨_, rfl, WayN15.nil _ _, hb⟩
def PrL (s : List UInt8) (o : List Stp) (a : Nat) : Prop := ∃ f, parseX15 s = runX f o a (s.drop a) ∧ s.length ≤ a + f ∧ o.length ≤ 6
theorem PrL.end_ {s : List UInt8} {o : List Stp} (h : PrL s o s.length) : parseX15 s = (o, 0, 0) := by
 obtain ⟨f, h, -, -⟩ := h
 rw [h, List.drop_length, runX_nil]
theorem PrL.in_ {s : List UInt8} {o : List Stp} {a : Nat} (h : PrL s o a) (ha : a < s.length) : ∃ f, parseX15 s = runX (f + 1) o a (s.drop a) ∧ s.length ≤ a + f + 1 ∧ o.length ≤ 6 := by
 obtain ⟨f, h1, h2, h3⟩ := h
 exact ⟨f - 1, by rw [show f - 1 + 1 = f by omega]; exact h1, by omega, h3⟩
section
attribute [local go_sem] Oper.semAt_some
def OwnW18 (base : Nat) (w : World) (v : Value) (l : List EdD) : Prop := ∃ S, OwnE base S w v l
theorem OwnW18.more {base : Nat} {w w' : World} {v : Value} {l : List EdD} {cs : List Value} {e : EdD} (h : OwnW18 base w v l) (hb : Below w.heap.size w w') (he : EdS (fun g => w.heap.size ≤ g ∧ g < w'.heap.size) w' cs e) :
  ∃ S, OwnE base S w' v l ∧ EdS S w' cs e := by
 obtain ⟨S, h2⟩ := h
 have h3 := h2.below hb
 refine ⟨fun g => S g ∨ (w.heap.size ≤ g ∧ g < w'.heap.size), h3.widen (fun g hg => .inl hg) (fun g hg => ?_), EdS.keep he (fun _ _ => rfl) (fun g hg => .inr hg)⟩
 rcases hg with hg | hg
 ·exact h3.1 g hg
 ·exact ⟨hg.2, fun e => by have := (h2.lt g e.symm).2; have := hg.1; omega⟩
theorem OwnW18.eds {base : Nat} {w : World} {v : Value} {l : List EdD} (h : OwnW18 base w v l) : EdsV (Bel w) w v l := by
 obtain ⟨S, h2⟩ := h
 exact EdsV.keep h2.eds (fun _ _ => rfl) (fun g hg => hg.elim (fun h => (h2.1 g h).1) (fun h => (h2.lt g h).2))
theorem OwnW18.shape {base : Nat} {w : World} {v : Value} {l : List EdD} (h : OwnW18 base w v l) : ∃ A c, v = .slice A l.length c := h.choose_spec.shape
theorem right_sz18 : ∀ (f : Fo) (deep : Nat), Fo.right deep f = true → f.sz ≤ f.all.length := by
 intro f
 induction f with
 | nil => intro _ _; exact Nat.le_refl _
 | cons t d k r ihk ihr =>
  intro deep h
  simp only [Fo.right, Bool.and_eq_true] at h
  obtain ⟨⟨⟨h1, h2⟩, h3⟩, h4⟩ := h
  have k1 := ihk _ h3
  have r1 := ihr _ h4
  have e1 := (encV_length 9 t).1
  have e2 := (encV_length 9 (Fo.inn t d k.all).length).1
  simp only [Fo.sz, Fo.all, List.length_append]
  by_cases ht : t % 2 = 0
  ·have hk : k = .nil := by
    rw [if_neg (by omega)] at h2
    cases k with
    | nil => rfl
    | cons => simp [Fo.len] at h2
   subst hk
   have hi : (Fo.inn t d (Fo.nil.all)).length = d.length := by unfold Fo.inn; rw [if_neg (by omega)]
   simp only [Fo.sz]
   omega
  ·have hd : d = [] := by
    rw [if_pos (by omega)] at h2
    cases d with
    | nil => rfl
    | cons => cases h2
   subst hd
   have hi : (Fo.inn t [] k.all).length = k.all.length := by unfold Fo.inn; rw [if_pos (by omega)]
   simp only [List.length_nil]
   omega
theorem got_sz18 {b : List UInt8} (h : (got18 b).2.1 = 0) (hb : b.length ≤ 100000) : (got18 b).1.sz ≤ b.length := by
 unfold got18 at h ⊢
 split at h
 ·cases h
 ·rename_i h8
  rw [if_neg h8]
  obtain ⟨h1, h2⟩ := gt_own b.length b 1 0 (Nat.le_refl _) (by omega) h
  have h5 := right_sz18 _ _ h2.1
  rw [h1] at h5
  omega
def GetP18 (b : List UInt8) (w : World) (r : Ending) (w' : World) : Prop := ∃ v, r = .returned (.tuple #[v, .int .i64 (getX18 leastB V18 b).2]) ∧ EdsV (Bel w') w' v (getX18 leastB V18 b).1 ∧ Below w.heap.size w w'
end
end Go.Proofs.YtleidkpdpabkpaaGreatDoor
