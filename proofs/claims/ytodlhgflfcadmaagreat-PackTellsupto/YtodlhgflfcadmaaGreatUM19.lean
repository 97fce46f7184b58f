/- VadMath VadDng VadFit -/
import Derived.Test.YtodlhgflfcadmaaGreatUM18
set_option linter.unusedSimpArgs false
set_option linter.unusedVariables false
set_option maxRecDepth 100000
set_option maxHeartbeats 8000000
namespace Go.Proofs.YtodlhgflfcadmaaGreat
open Go.RowKit
def thereT (k : NdF) (t : List UInt8) : Bool := (gtF (nClass, t) k).isSome
theorem there_keys (k : NdF) (t : List UInt8) : ((kidsOf nClass k).any fun y => decide (y.1.key = t)) = thereT k t := by
 unfold thereT
 induction k with
 | nil => rfl
 | cons a q r _ ih =>
  unfold kidsOf gtF
  by_cases h1 : a.name = nClass
  ·rw [if_pos h1, List.any_cons]
   by_cases h2 : a.key = t
   ·rw [if_pos (by unfold stp; rw [h1, h2])]
    simp [h2]
   ·rw [if_neg (by unfold stp; intro h; injection h with _ h; exact h2 h), ← ih]
    simp [h2]
  ·rw [if_neg h1, if_neg (by unfold stp; intro h; injection h with h _; exact h1 h)]
   exact ih
theorem rules_find (all : NdF) : ∀ f : NdF, rulesX all f = (((kidsOf nRule f).flatMap refR).find? fun r => !(thereT all r.2)).map (·.1) := by
 intro f
 induction f with
 | nil => rfl
 | cons a k r _ ih =>
  unfold rulesX kidsOf
  by_cases h1 : a.name = nRule
  ·rw [if_pos h1, List.flatMap_cons]
   have er : refR (a, k) = refO [stp a] (gtF (nClass, []) k) := rfl
   rw [er, show clsS = (nClass, []) from rfl]
   cases hg : gtF (nClass, []) k with
   | none =>
    rw [if_neg (by simp [namedB]), ih]
    rfl
   | some y =>
    have hy : stp y.1 = (nClass, []) := (kidO_mem (nm := nClass) (f := k) hg).2
    have e2 : namedB all (some y) = thereT all y.1.text := rfl
    rw [e2]
    simp only [refO, List.cons_append, List.nil_append, List.find?_cons]
    by_cases ht : thereT all y.1.text = true
    ·rw [if_neg (by rw [ht]; simp), ih, ht]
     rfl
    ·have ht : thereT all y.1.text = false := by simpa using ht
     rw [if_pos ⟨h1, ht⟩, ht]
     simp only [Bool.not_false, Option.map_some, hy]
  ·rw [if_neg h1, if_neg (by simp [h1]), ih]
theorem port_find (k : NdF) : portX k = ((refsL k).find? fun r => !(thereT k r.2)).map (·.1) := by
 unfold portX refsL
 have er : kidO nDefault k = gtF (nDefault, []) k := rfl
 rw [List.find?_append, show defS = (nDefault, []) from rfl, er]
 cases hg : gtF (nDefault, []) k with
 | none =>
  rw [if_neg (by simp [namedB])]
  simp only [refO, List.find?_nil, Option.none_or]
  exact rules_find k k
 | some y =>
  have hy : stp y.1 = (nDefault, []) := (kidO_mem (nm := nDefault) (f := k) hg).2
  have e2 : namedB k (some y) = thereT k y.1.text := rfl
  rw [e2]
  simp only [refO, List.nil_append, List.find?_cons, List.find?_nil]
  by_cases ht : thereT k y.1.text = true
  ·rw [if_neg (by rw [ht]; simp), ht]
   simp only [Bool.not_true, Option.none_or]
   exact rules_find k k
  ·have ht : thereT k y.1.text = false := by simpa using ht
   rw [if_pos ht, ht]
   simp only [Bool.not_false, Option.some_or, Option.map_some, hy]
theorem port_none {k : NdF} (h : ∀ r ∈ refsL k, thereT k r.2 = true) : portX k = none := by
 rw [port_find, List.find?_eq_none.2 (fun r hr => by rw [h r hr]; decide)]
 rfl
theorem port_some {k : NdF} {pre post : List Rf} {r : Rf} (h : refsL k = pre ++ r :: post) (h1 : ∀ x ∈ pre, thereT k x.2 = true) (h2 : thereT k r.2 = false) : portX k = some r.1 := by
 rw [port_find, h, List.find?_append, List.find?_eq_none.2 (fun x hx => by rw [h1 x hx]; decide), Option.none_or, List.find?_cons, h2]
 rfl
theorem refs_ports : ∀ f : NdF, refsF f = (kidsOf nPort f).findSome? fun y => (portX y.2).map fun p => ((26, stp y.1 :: p) : Bad) := by
 intro f
 induction f with
 | nil => rfl
 | cons a k r _ ih =>
  unfold refsF kidsOf
  by_cases h1 : a.name = nPort
  ·rw [if_pos h1, if_pos h1, List.findSome?_cons]
   cases hp : portX k with
   | none => simp only [Option.map_none]; exact ih
   | some p => rfl
  ·rw [if_neg h1, if_neg h1]; exact ih
theorem refs_none {f : NdF} (h : ∀ y ∈ kidsOf nPort f, portX y.2 = none) : refsF f = none := by
 rw [refs_ports, List.findSome?_eq_none_iff.2]
 intro y hy
 rw [h y hy]
 rfl
theorem refs_some {f : NdF} {pre post : List Nd} {y : Nd} {p : List Stp} (h : kidsOf nPort f = pre ++ y :: post) (h1 : ∀ x ∈ pre, portX x.2 = none) (h2 : portX y.2 = some p) : refsF f = some (26, stp y.1 :: p) := by
 rw [refs_ports, h, List.findSome?_append, List.findSome?_eq_none_iff.2 (fun x hx => by rw [h1 x hx]; rfl), Option.none_or, List.findSome?_cons, h2]
 rfl
theorem refs_len2 {k : NdF} {r : Rf} (h : r ∈ refsL k) : r.1.length ≤ 2 := by
 unfold refsL at h
 rcases List.mem_append.1 h with h | h
 ·cases ho : kidO nDefault k with
  | none => rw [ho] at h; cases h
  | some y => rw [ho] at h; simp only [refO, List.mem_singleton] at h; subst h; simp
 ·obtain ⟨y, _, h⟩ := List.mem_flatMap.1 h
  unfold refR at h
  cases ho : kidO nClass y.2 with
  | none => rw [ho] at h; cases h
  | some z => rw [ho] at h; simp only [refO, List.mem_singleton] at h; subst h; simp
theorem refs_ok {k : NdF} {r : Rf} (hk : OkF k) (h : r ∈ refsL k) : r.2.length ≤ 1048576 := by
 unfold refsL at h
 rcases List.mem_append.1 h with h | h
 ·cases ho : kidO nDefault k with
  | none => rw [ho] at h; cases h
  | some y =>
   rw [ho] at h; simp only [refO, List.mem_singleton] at h; subst h
   obtain ⟨⟨i, hi⟩, _⟩ := kidO_mem ho
   exact (hk.at hi).1.text
 ·obtain ⟨y, hy, h⟩ := List.mem_flatMap.1 h
  obtain ⟨i, hi, _⟩ := kidsOf_mem hy
  unfold refR at h
  cases ho : kidO nClass y.2 with
  | none => rw [ho] at h; cases h
  | some z =>
   rw [ho] at h; simp only [refO, List.mem_singleton] at h; subst h
   obtain ⟨⟨j, hj⟩, _⟩ := kidO_mem ho
   exact ((hk.at hi).2.at hj).1.text
section
attribute [local go_sem] Oper.semAt_some
theorem dangling_any (a : NdD) (u : Value) (w : World) :
  Calls Tryz.prog 53 #[.agg (cN a u)] w fun r w' => r = .returned (.func (.func 86) #[] #[.pointer (some ⟨w.heap.size, 0, none⟩)]) ∧ w' = w.alloc (.cells (cN a u) 27) := by
 go_enter Tryz.func53, Tryz.ntmps53
 go_wp2
 go_ret
 exact ⟨rfl, rfl⟩
def PrbP (o : Option Bad) (Jx : World → Prop) (W : World) (e : Ending) (W' : World) : Prop := (∃ v, e = .returned v) ∧ (if o.isSome = true then Jx W' else Below W.heap.size W W')
def YldP (o : Option Bad) (l : Nat) (Jx : World → Prop) (W : World) : Prop := ∀ args W1, Below W.heap.size W W1 → EncO o W.heap.size args W1 → ∀ m, YieldAt Fence.wide m Tryz.prog l args W1 (StopY W.heap.size Jx W1)
theorem stop_bool {B : Nat} {Jx : World → Prop} {W1 W' : World} {e : Ending} (h : StopY B Jx W1 e W') : e = .returned (.bool false) ∧ Jx W' ∧ KeepsFrom B W1 W' := h
theorem keeps_below {B : Nat} {A C : World} (h : Below A.heap.size A C) : KeepsFrom B A C := ⟨h.size, fun k o _ ho _ => (h.block k (Array.getElem?_eq_some_iff.1 ho).1).trans ho⟩
theorem keeps_grown {B : Nat} {A C : World} {row : Option Nat} (h : A.grownBy C row) (hr : ∀ r, row = some r → ∃ o : Obj, A.heap[r]? = some o ∧ o.isCells = true) : KeepsFrom B A C := ⟨h.size, fun k o _ ho hc => (h.block k (Array.getElem?_eq_some_iff.1 ho).1 (fun e => by
 obtain ⟨o', h1, h2⟩ := hr k e.symm
 rw [ho] at h1
 injection h1 with h1
 subst h1
 rw [h2] at hc
 cases hc)).trans ho⟩
theorem OwnS.cells {base : Nat} {w : World} {v : Value} {l : List Stp} (h : OwnS base w v l) : ∀ r, v.ownBlock = some r → ∃ o : Obj, w.heap[r]? = some o ∧ o.isCells = true := by
 intro r hr
 rcases h.2 with ⟨rfl, _⟩ | ⟨g, cap, cur, rfl, _, hg, _⟩
 ·simp [Value.ownBlock] at hr
 ·obtain rfl : g = r := by simpa [Value.ownBlock] using hr
  exact ⟨_, hg, rfl⟩
def AllT (k : NdF) (l : List Rf) : Prop := ∀ r ∈ l, thereT k r.2 = true
def AllP (l : List Nd) : Prop := ∀ x ∈ l, portX x.2 = none
def DngA (b B : Nat) (tm : Array Value) (x : Nd) (a : Act) (V : World) : Prop := ∃ (Bx c : Nat) (A : Option Addr), B ≤ Bx ∧ Blk V Bx 27 (ndC x.1 (.slice A x.2.len c)).toArray ∧ LieB b V (ndC x.1 (.slice A x.2.len c)) x ∧
 a = { tmps := (tm.setIfInBounds 12 (.agg (ndC x.1 (.slice A x.2.len c)).toArray)).setIfInBounds 3 (.pointer (some ⟨Bx, 0, none⟩)), defers := [] }
theorem dngA_own (b B : Nat) (tm : Array Value) (x : Nd) (a : Act) (hb : b ≤ B) : OwnFrom B (fun (_ : Unit) V => DngA b B tm x a V) := by
 rintro s X Y row ⟨Bx, c, A, h1, h2, h3, h4⟩ hg hr
 exact ⟨Bx, c, A, h1, h2.obj hg (fun r e => (hr r e).2), h3.keep (fun g hg' => hg.block g (by have := h2.lt; omega) (fun e => by have := (hr g e.symm).1; omega)) (Nat.le_refl _), h4⟩
def DngB (B : Nat) (tm : Array Value) (x : Rf) (a : Act) (V : World) : Prop := ∃ (A : Option Addr) (c : Nat), OwnS B V (.slice A x.1.length c) x.1 ∧
 a = { tmps := (((tm.setIfInBounds 17 (.slice A x.1.length c)).setIfInBounds 18 (.string (txt x.2))).setIfInBounds 5 (.slice A x.1.length c)).setIfInBounds 6 (.string (txt x.2)), defers := [] }
theorem dngB_own (B : Nat) (tm : Array Value) (x : Rf) (a : Act) : OwnFrom B (fun (_ : Unit) V => DngB B tm x a V) := by
 rintro s X Y row ⟨A, c, h1, h2⟩ hg hr
 exact ⟨A, c, h1.obj hg (fun r e => (hr r e).2), h2⟩
theorem dangling1_in (a : NdD) (f : NdF) (A : Option Addr) (c b g1 l : Nat) (Jx : World → Prop) (W : World)
  (hrow : RowT b W (.slice A f.len c) f) (hb1 : Blk W g1 27 (cN a (.slice A f.len c))) (hbW : b ≤ W.heap.size) (hf : f.size ≤ 1000000) (hok : OkF f) (hJx : OwnFrom W.heap.size (fun (_ : Unit) V => Jx V)) (hY : YldP (refsF f) l Jx W) :
  CallsIn Fence.wide 9 Tryz.prog 86 #[.func (.yield l) #[] #[], .pointer (some ⟨g1, 0, none⟩)] W (PrbP (refsF f) Jx W) := by
 have HY := hHd hY
 have HJx := hHd hJx
 have HBW := hHd hbW
 have HFEW := hHd hf
 have HROW := hHd hrow
 have HOK := hHd hok
 have hal : Below W.heap.size W (W.alloc (.cells #[.func (.yield l) #[] #[]] 93)) := bAl
 have HYB := hHd (Blk.new W 93 #[.func (.yield l) #[] #[]])
 have HBA := hHd (hb1.below hal hb1.lt)
 have HAL := hHd hal
 clear hY hJx hbW hf hrow hok hb1 hal
 obtain ⟨q0, q1, q2, q3, q4, q5⟩ := cl6 HBA.out
 refine callsIn_of_wp_marks Tryz.func86 rfl trivial ?_ rfl
 simp only [Tryz.ntmps86, List.size_toArray, List.length_cons, List.length_nil, Nat.reduceAdd, Nat.reduceSub, Array.replicate_succ, Array.replicate_zero, List.push_toArray, List.append_toArray, List.nil_append, List.cons_append]
 gi_wp2_with fail
 refine ⟨trivial, calls_wideR (ro := none) ((vnamed_any _ _ nPort _).mono ?_)⟩
 rintro e w' ⟨rfl, rfl⟩
 clear q0 q1 q2 q3 q4 q5
 gi_wp2_with fail
 refine wpIn_act ?_
 intro act hact
 obtain ⟨V0, hV0⟩ : ∃ V0, V0 = ((W.alloc (.cells #[.func (.yield l) #[] #[]] 93)).alloc (.cells (cN a (.slice A f.len c)) 27)).alloc (.cells #[.string (txt nPort)] 9) := ⟨_, rfl⟩
 rw [← hV0]
 have hsA : (W.alloc (.cells #[.func (.yield l) #[] #[]] 93)).heap.size = W.heap.size + 1 := by simp
 have hs : V0.heap.size = W.heap.size + 3 := by rw [hV0]; simp
 have hbt : Below (W.heap.size + 1) (W.alloc (.cells #[.func (.yield l) #[] #[]] 93)) V0 := by rw [hV0]; exact ((Below.refl _ _).alloc (by simp) _).alloc (by simp <;> omega) _
 have hb0 : Below W.heap.size W V0 := HAL.out.trans (hbt.mono (by omega))
 have hbV : b ≤ V0.heap.size := Nat.le_trans HBW.out hb0.size
 have hYV : Blk V0 W.heap.size 93 #[.func (.yield l) #[] #[]] := (hbt.block _ (by omega)).trans HYB.out
 have hgA : Blk V0 (W.heap.size + 1) 27 (cN a (.slice A f.len c)) := by rw [hV0]; exact (Blk.newA hsA _ _).alloc _
 have hgB : Blk V0 (W.heap.size + 2) 9 #[.string (txt nPort)] := by rw [hV0]; exact Blk.newA (by simp) _ _
 have hrV : RowT b V0 (.slice A f.len c) f := HROW.out.under hb0 HBW.out (Nat.le_refl _)
 have hseq := named_seq nPort a f A c b (W.heap.size + 1) (W.heap.size + 2) (fun k => k < b ∨ k = W.heap.size + 1 ∨ k = W.heap.size + 2) V0 hrV hgA hgB (fun k hk => .inl hk) (.inr (.inl rfl)) (.inr (.inr rfl)) hbV (by have := Fr.len_size f; have := HFEW.out; omega)
 simp only [hsA, show W.heap.size + 1 + 1 = W.heap.size + 2 by omega] at hact
 have HACT := hHd hact
 have HS := hHd hs
 have HB0 := hHd hb0
 have HBV := hHd hbV
 have HYV := hHd hYV
 refine wpIn_range_go (by decide) (by rw [hact]; rfl) (Go.Proofs.enters_of Tryz.func108 (by kernel_rfl) rfl) hseq (Below.refl _ _) (by intro k hk; have := HBW.out; omega) (fun B x args W h => by obtain ⟨cs, rfl, _⟩ := h; rfl) (fun B B' x args W _ h => h)
  (fun pre V => Below V0.heap.size V0 V ∧ AllP pre) (fun c _ V => c = .ret ∧ Jx V ∧ (refsF f).isSome = true)
  (fun s X Y h hb => ⟨h.1.trans hb, h.2⟩) (fun c s X Y row h hg hr => ⟨h.1, OwnFrom.le HJx.out hb0.size () X Y row h.2.1 hg hr, h.2.2⟩) ⟨Below.refl _ _, fun x hx => by cases hx⟩
  (DngA b V0.heap.size act.tmps) (fun x a' => dngA_own b V0.heap.size act.tmps x a' hbV) ?assign ?body ?done ?stop
 all_goals clear hact hV0 hsA hs hbt hb0 hbV hgA hgB hrV hseq
 case assign =>
  rintro l' pre x args V K hI ⟨cs, rfl, hx⟩ hK
  obtain ⟨A', c', rfl, hr'⟩ := hx.shape
  obtain ⟨y, k⟩ := x
  rw [HACT.out] at hK ⊢
  gi_wp2
  have hal : Below V.heap.size V (V.alloc (.cells (ndC y (.slice A' k.len c')).toArray 27)) := bAl
  exact hK _ _ ((KeepsOthers.alloc _ _).from _) (KeepN.below hal) ⟨hI.1.trans (hal.mono hI.1.size), hI.2⟩ ⟨V.heap.size, c', A', hI.1.size, Blk.new _ _ _, hx.under hal (Nat.le_trans HBV.out hI.1.size) (Nat.le_refl _), rfl⟩
 case body =>
  rintro l' pre x post a' V hl hlr hxs hI ⟨Bx, cy, Ay, hBx, hblk, hlie, rfl⟩
  obtain ⟨y, k⟩ := x
  rw [HACT.out]
  simp only [List.setIfInBounds_toArray, List.set_cons_succ, List.set_cons_zero]
  obtain ⟨i, hi, -⟩ := kidsOf_mem (nm := nPort) (f := f) (y := (y, k)) (by rw [hxs]; simp)
  have hks : k.size ≤ 1000000 := by have := Fr.size_get hi; have := HFEW.out; omega
  have hkok : OkF k := (HOK.out.at hi).2
  have hbl : b ≤ V.heap.size := Nat.le_trans HBV.out hI.1.size
  have HKC := hHd (keys_any nClass y k Ay cy V (hlie.row9.under (Below.refl _ _) hbl hbl) (by have := Fr.len_size k; omega) hkok)
  have HI := hHd hI
  have HXS := hHd hxs
  have HKS := hHd (And.intro hks hkok)
  have HBL := hHd hbl
  have HLIE := hHd hlie
  have HBK : Hid (Blk V Bx 27 (cN y (.slice Ay k.len cy))) := hHd hblk
  have HYR : Hid (Blk V W.heap.size 93 #[.func (.yield l) #[] #[]]) := hHd ((hI.1.block _ (by have := HS.out; omega)).trans HYV.out)
  clear hI hxs hblk hlie hks hkok hbl hi
  obtain ⟨q0, q1, q2, q3, q4, q5⟩ := cl6 HBK.out
  gi_wp2_with fail
  refine ⟨trivial, calls_wideR (ro := some l') (HKC.out.mono ?_)⟩
  rintro r V1 ⟨m, n, rfl, hm0, hm1, hmap, hb1⟩
  clear q0 q1 q2 q3 q4 q5
  have HBK1 := hHd (HBK.out.below hb1 HBK.out.lt)
  have hal1 : Below V1.heap.size V1 (V1.alloc (.cells #[.map (some m)] 132)) := bAl
  have HBK2 := hHd (HBK1.out.below hal1 HBK1.out.lt)
  have HM := hHd (And.intro hm1 hmap)
  have HB1 := hHd hb1
  have HMB := hHd (Blk.new V1 132 #[.map (some m)])
  clear hm0 hm1 hmap hb1
  obtain ⟨q0, q1, q2, q3, q4, q5⟩ := cl6 HBK2.out
  gi_wp2_with fail
  refine ⟨trivial, calls_wideR (ro := some l') ((refs_any y _ _).mono ?_)⟩
  rintro r w' ⟨rfl, rfl⟩
  clear q0 q1 q2 q3 q4 q5
  gi_wp2_with fail
  refine wpIn_act ?_
  intro act2 hact2
  obtain ⟨r0, hr0⟩ := hlr
  obtain ⟨V2, hV2⟩ : ∃ V2, V2 = (V1.alloc (.cells #[.map (some m)] 132)).alloc (.cells (cN y (.slice Ay k.len cy)) 27) := ⟨_, rfl⟩
  rw [← hV2]
  have hs1 : (V1.alloc (.cells #[.map (some m)] 132)).heap.size = V1.heap.size + 1 := by simp
  have hs2 : V2.heap.size = V1.heap.size + 2 := by rw [hV2]; simp
  have hb2 : Below V1.heap.size V1 V2 := by rw [hV2]; exact hal1.alloc hal1.size _
  have hvv : Below V.heap.size V V2 := HB1.out.trans (hb2.mono HB1.out.size)
  have hg2 : Blk V2 (V1.heap.size + 1) 27 (cN y (.slice Ay k.len cy)) := by rw [hV2]; exact Blk.newA hs1 _ _
  have hr2 : RowT b V2 (.slice Ay k.len cy) k := HLIE.out.row9.under hvv HBL.out (Nat.le_refl _)
  have hbV2 : b ≤ V2.heap.size := Nat.le_trans HBL.out hvv.size
  have hseq2 := refs_seq y k Ay cy b (V1.heap.size + 1) (fun j => j < b ∨ j = V1.heap.size + 1) V2 hr2 hg2 (fun j hj => .inl hj) (.inr rfl) hbV2 HKS.out.1
  have hbk2 := HBK.out.below hvv HBK.out.lt
  have hyr2 := HYR.out.below hvv HYR.out.lt
  have hmb2 : Blk V2 V1.heap.size 132 #[.map (some m)] := by rw [hV2]; exact HMB.out.alloc _
  have hmm2 := ownsMap_at HM.out.2 (hb2.block m HM.out.1)
  have HF2 := hHd (And.intro hbk2 (And.intro hyr2 (And.intro hmb2 hmm2)))
  have HV2 := hHd (And.intro hvv (And.intro hs2 hb2))
  have hrl : V2.heap[l']? = some (.loop r0) := (hvv.block l' (Array.getElem?_eq_some_iff.1 hr0).1).trans hr0
  (try simp only [hs1] at hact2)
  have HACT2 := hHd hact2
  have HWV2 : Hid (W.heap.size + 3 ≤ V2.heap.size) := hHd (by have h1 := HI.out.1.size; have h2 := hvv.size; have h3 := HS.out; omega)
  refine wpIn_range_in (F := Fence.wide.inRound l') rfl hrl (by decide) (by rw [hact2]; rfl) (Go.Proofs.enters_of Tryz.func109 (by kernel_rfl) rfl) hseq2 (Below.refl _ _) (by intro j hj; omega) (fun B x args W h => by obtain ⟨v, rfl, _⟩ := h; rfl) (fun B B' x args W hb h => by obtain ⟨v, h1, h2⟩ := h; exact ⟨v, h1, h2.mono hb⟩)
   (fun pre2 V' => Below V2.heap.size V2 V' ∧ AllT k pre2) (fun c _ V' => c = .ret ∧ Jx V' ∧ (refsF f).isSome = true ∧ KeepsFrom V0.heap.size V V')
   (fun s X Y h hb => ⟨h.1.trans hb, h.2⟩) (fun c s X Y row h hg hr => ⟨h.1, OwnFrom.le HJx.out (by have := HWV2.out; omega) () X Y row h.2.1 hg hr, h.2.2.1, ownFrom_keepsFrom (β := Unit) hvv.size () X Y row h.2.2.2 hg hr⟩) ⟨Below.refl _ _, fun r hr => by cases hr⟩
   (DngB V2.heap.size act2.tmps) (fun x a' => dngB_own V2.heap.size act2.tmps x a') ?assign2 ?body2 ?done2 ?stop2
  all_goals clear hact2 hV2 hs1 hs2 hb2 hvv hg2 hr2 hbV2 hseq2 hbk2 hyr2 hmb2 hmm2 hrl hal1 hr0
  case assign2 =>
   rintro l2 pre2 x2 args V3 K hI2 ⟨v, rfl, hv⟩ hK
   obtain ⟨A2, c2, rfl⟩ := hv.shape
   rw [HACT2.out] at hK ⊢
   gi_wp2
   exact hK _ _ (KeepsFrom.refl _ _) (KeepN.refl _ _ _) hI2 ⟨A2, c2, hv, rfl⟩
  case body2 =>
   rintro l2 pre2 x2 post2 a2 V3 hl2 hlr2 hxs2 hI2 ⟨A2, c2, hv, rfl⟩
   obtain ⟨way, tx⟩ := x2
   rw [HACT2.out]
   simp only [List.setIfInBounds_toArray, List.set_cons_succ, List.set_cons_zero]
   have hb3 := hI2.1
   have hown := ownsMap_at HF2.out.2.2.2 (hb3.block m (by have := HM.out.1; have := HV2.out.2.1; omega))
   have q0 := ((HF2.out.2.2.1.below hb3 HF2.out.2.2.1.lt).cell 0).trans rfl
   have htx : tx.length ≤ 1048576 := refs_ok (r := (way, tx)) HKS.out.2 (by rw [hxs2]; simp)
   have hwl : way.length ≤ 1000000 := by have := refs_len2 (k := k) (r := (way, tx)) (by rw [hxs2]; simp); simp only at this; omega
   have hkey : keyOf Tryz.prog 9 (.string (txt tx)) = some (.string tx) := by
    have h := WideMaps.keyOf_string_mk (P := Tryz.prog) Tryz.underlying9 (s := txt tx) (by unfold maxLen; simp [txt, ByteArray.size]; omega)
    rw [h]
    rfl
   have hz : ∀ w, (zeroValue 137).run Tryz.prog w = .ok (.agg #[]) w := fun w => by kernel_rfl
   have hhas : Maps.has (keyX (kidsOf nClass k)) (.string tx) = thereT k tx := by rw [keyX_has]; exact there_keys k tx
   have HI2 := hHd hI2
   have HX2 := hHd hxs2
   have HOW := hHd hv
   have HWL := hHd hwl
   have HB3 := hHd hb3
   clear hI2 hxs2 hv hwl hb3 htx
   cases ht : thereT k tx with
   | true =>
    rw [ht] at hhas
    have HEND : Hid (KeepN (fun j => j < b ∨ j = V1.heap.size + 1) V2.heap.size V3 (V3.alloc (.cells #[] 137)) ∧ Below V2.heap.size V2 (V3.alloc (.cells #[] 137)) ∧ AllT k (pre2 ++ [((way, tx) : Rf)])) := hHd (by
     have hal : Below V3.heap.size V3 (V3.alloc (.cells #[] 137)) := bAl
     refine ⟨KeepN.below hal, HI2.out.1.trans (hal.mono HI2.out.1.size), fun r hr => ?_⟩
     rcases List.mem_append.1 hr with h | h
     ·exact HI2.out.2 r h
     ·simp only [List.mem_singleton] at h; subst h; exact ht)
    clear ht
    gi_wp2_with (gi_at_lookup; refine wpListIn_lookup_own_unit _ rfl _ _ 132 rfl 9 137 (Maps.string_keyed Tryz.underlying9) Tryz.underlying132 (hz _) m n _ rfl hown _ _ rfl hkey ?_)
    exact HEND.out
   | false =>
    rw [ht] at hhas
    have HT := hHd ht
    clear ht
    gi_wp2_with (gi_at_lookup; refine wpListIn_lookup_own_unit _ rfl _ _ 132 rfl 9 137 (Maps.string_keyed Tryz.underlying9) Tryz.underlying132 (hz _) m n _ rfl hown _ _ rfl hkey ?_)
    have HPS : Hid (portX k = some way) := hHd (port_some HX2.out HI2.out.2 HT.out)
    have HRS : Hid (refsF f = some (26, stp y :: way)) := hHd (refs_some HXS.out HI.out.2 HPS.out)
    have hb5 : Below V3.heap.size V3 ((V3.alloc (.cells #[] 137)).alloc (.cells #[.int .i64 26, .slice A2 way.length c2] 92)).drew := (bAl.alloc (by simp) _).drew
    have hyr5 := (HF2.out.2.1.below HB3.out HF2.out.2.1.lt).below hb5 (HF2.out.2.1.below HB3.out HF2.out.2.1.lt).lt
    have hbk5 := (HF2.out.1.below HB3.out HF2.out.1.lt).below hb5 (HF2.out.1.below HB3.out HF2.out.1.lt).lt
    have hq5 : Blk ((V3.alloc (.cells #[] 137)).alloc (.cells #[.int .i64 26, .slice A2 way.length c2] 92)).drew (V3.heap.size + 1) 92 #[.int .i64 26, .slice A2 way.length c2] := Blk.newA (w := V3.alloc (.cells #[] 137)) (by simp) _ _
    have HS0 : Hid (Blk ((V3.alloc (.cells #[] 137)).alloc (.cells #[.int .i64 26, .slice A2 way.length c2] 92)).drew W.heap.size 93 #[.func (.yield l) #[] #[]] ∧ Blk ((V3.alloc (.cells #[] 137)).alloc (.cells #[.int .i64 26, .slice A2 way.length c2] 92)).drew (V3.heap.size + 1) 92 #[.int .i64 26, .slice A2 way.length c2] ∧ Blk ((V3.alloc (.cells #[] 137)).alloc (.cells #[.int .i64 26, .slice A2 way.length c2] 92)).drew Bx 27 (cN y (.slice Ay k.len cy))) := hHd ⟨hyr5, hq5, hbk5⟩
    have HB5 := hHd hb5
    have HLT : Hid (Bx < V2.heap.size ∧ W.heap.size < V2.heap.size) := hHd ⟨HF2.out.1.lt, by have := HWV2.out; omega⟩
    clear hb5 hyr5 hbk5 hq5 q0 hown hkey hz hhas
    refine wpIn_region_calm (ro := (some l2)) ?_
    refine wpIn_region_heldI [4] (S := fun _ => True) (by kernel_rfl) trivial (fun hS => ?_)
    refine heldI_more (S' := fun w' => Blk w' W.heap.size 93 #[.func (.yield l) #[] #[]] ∧ Blk w' (V3.heap.size + 1) 92 #[.int .i64 26, .slice A2 way.length c2] ∧ Blk w' Bx 27 (cN y (.slice Ay k.len cy))) (fun _ _ => trivial) _ _ _ _ ?_
    replace hS := HS0.out
    refine tkI 0 [0, 4, 5] hS ?_ (hy := fun w hSw => by have y0 := (hSw.1.cell 0).trans rfl; (go_simp <;> with_reducible rfl))
    refine tkI 1 [1, 3, 4, 5] hS ?_ (hy := fun w hSw => by have y0 := (hSw.2.1.cell 0).trans rfl; have y1 := (hSw.2.1.cell 1).trans rfl; (go_simp <;> with_reducible rfl))
    refine tkI 2 [2, 3, 4, 5] hS ?_ (hy := fun w hSw => by obtain ⟨q0, q1, q2, q3, q4, q5⟩ := cl6 hSw.2.2; (go_simp <;> with_reducible rfl))
    refine rdyI [3] (riC (fun K hK => ?_) .nil)
    refine opIn_of (by kernel_rfl) ?_
    go_simp
    refine (below_any 26 (.slice A2 way.length c2) way y (.slice Ay k.len cy) V2.heap.size _ (HOW.out.below HB5.out) HWL.out (Nat.le_trans HB3.out.size HB5.out.size)).mono ?_
    rintro r w6 ⟨v6, rfl, ho6, hg6⟩
    obtain ⟨A6, c6, e6⟩ := ho6.shape
    simp only [List.length_cons] at e6
    subst e6
    have hown6 : ∀ g, (Value.slice A2 way.length c2).ownBlock = some g → V2.heap.size ≤ g ∧ g < V3.heap.size := fun g hg => HOW.out.lt g hg
    have HS6 : Hid (Blk w6 W.heap.size 93 #[.func (.yield l) #[] #[]] ∧ Blk w6 (V3.heap.size + 1) 92 #[.int .i64 26, .slice A2 way.length c2] ∧ Blk w6 Bx 27 (cN y (.slice Ay k.len cy))) := hHd ⟨(hg6.block _ HS0.out.1.lt (fun e => by have h1 := hown6 _ e.symm; have h2 := HLT.out.2; omega)).trans HS0.out.1, (hg6.block _ HS0.out.2.1.lt (fun e => by have h1 := hown6 _ e.symm; omega)).trans HS0.out.2.1, (hg6.block _ HS0.out.2.2.lt (fun e => by have h1 := hown6 _ e.symm; have h2 := HLT.out.1; omega)).trans HS0.out.2.2⟩
    have HB6 : Hid (Below W.heap.size W w6) := hHd (by
     have h1 : Below W.heap.size W V3 := (HB0.out.trans (HI.out.1.mono HB0.out.size)).trans ((HV2.out.1.mono (by have := HB0.out.size; have := HI.out.1.size; omega)).trans (HB3.out.mono (by have := HLT.out.2; omega)))
     have h2 : Below W.heap.size W ((V3.alloc (.cells #[] 137)).alloc (.cells #[.int .i64 26, .slice A2 way.length c2] 92)).drew := h1.trans (HB5.out.mono h1.size)
     exact h2.trans ⟨hg6.os, hg6.tape, hg6.output, hg6.size, fun j hj => hg6.block j (by have := h2.size; omega) (fun e => by have h3 := hown6 _ e.symm; have h4 := HLT.out.2; omega)⟩)
    have HK6 : Hid (∀ B, KeepsFrom B V3 w6) := hHd (fun B => (keeps_below HB5.out).trans (keeps_grown hg6 (HOW.out.below HB5.out).cells))
    have HO6 := hHd ho6
    clear ho6 hg6 hown6
    go_wp2_with fail
    refine hK.out _ _ ?sr_0 (fun hS => ?_)
    case sr_0 => (exact HS6.out)
    clear hK K
    (try simp only [Act.put, layS])
    refine rdyI [4] (riD (fun K hK => ?_) .nil)
    have HYC := hHd (HY.out #[.agg #[.int .i64 26, .slice A6 (way.length + 1) c6]] w6 HB6.out ⟨(26, stp y :: way), HRS.out, _, rfl, HO6.out.mono (by have := HLT.out.2; omega)⟩)
    refine opIn_yield (by kernel_rfl) (fun fn tmps assign body h => by simp [execOp, resolve, invoke, go_sem, h]) HYC.out (fun e w7 he => ?_)
    obtain ⟨rfl, hj7, hk7⟩ := stop_bool he
    have HJ7 := hHd hj7
    have HK7 := hHd hk7
    clear he hj7 hk7
    refine ⟨_, rfl, ?_⟩
    refine hK.out _ _ ?_
    have hS : True := trivial
    clear hK K
    (try simp only [Act.put, layS])
    refine tkI 5 [5] hS ?_
    refine heldI_done (by kernel_rfl) ?_ _
    refine NoPanic.normal ?_
    clear hS
    gi_wp2
    have h7 : KeepsFrom V2.heap.size V3 w7 := (HK6.out _).trans (keepsFrom_mono HK7.out (by have := HLT.out.2; omega))
    refine ⟨h7, rfl, HJ7.out, by rw [HRS.out]; rfl, ?_⟩
    have h8 : KeepsFrom V0.heap.size V V3 := (keeps_below HV2.out.1).trans (keeps_below HB3.out)
    exact h8.trans ((HK6.out _).trans (keepsFrom_mono HK7.out HB0.out.size))
  case done2 =>
   intro V' hI2
   rw [HACT2.out]
   have hno : portX k = none := port_none hI2.2
   have hbv : Below V.heap.size V V' := HV2.out.1.trans (hI2.1.mono HV2.out.1.size)
   have HEND : Hid (KeepN (fun k => k < b ∨ k = W.heap.size + 1 ∨ k = W.heap.size + 2) V0.heap.size V V' ∧ Below V0.heap.size V0 V' ∧ AllP (pre ++ [((y, k) : Nd)])) := hHd ⟨KeepN.below hbv, HI.out.1.trans (hbv.mono HI.out.1.size), fun x hx => by
    rcases List.mem_append.1 hx with h | h
    ·exact HI.out.2 x h
    ·simp only [List.mem_singleton] at h; subst h; exact hno⟩
   clear hI2 hbv
   gi_wp2
   exact HEND.out
  case stop2 =>
   rintro c' pre2 x2 post2 V' hxs2 ⟨rfl, h2, h3, h4⟩
   rw [HACT2.out]
   gi_wp2
   exact ⟨h4, rfl, h2, h3⟩
 case done =>
  intro D V hD hI hK
  rw [HACT.out]
  have hno : refsF f = none := refs_none hI.2
  have HBE : Hid (Below W.heap.size W (V.putObj D (.deferred none))) := hHd ((HB0.out.trans (hI.1.mono HB0.out.size)).trans (below_put _ _ _ (by have := HB0.out.size; omega)))
  clear hI
  gi_wp2
  refine ⟨by simp, .inl ⟨_, _, rfl, run_takeDeferred hK, ?_⟩⟩
  refine ⟨_, results_none rfl _ _ _, ⟨_, rfl⟩, ?_⟩
  rw [hno]
  exact HBE.out
 case stop =>
  rintro D c pre x post V hD hxs ⟨rfl, h2, h3⟩ hK
  rw [HACT.out]
  have h4 := OwnFrom.putObj HJx.out (s := ()) (o' := .deferred none) h2 (by have := HB0.out.size; omega) hK rfl
  gi_wp2
  refine ⟨by simp, .inl ⟨_, _, rfl, run_takeDeferred hK, ?_⟩⟩
  refine ⟨_, results_none rfl _ _ _, ⟨_, rfl⟩, ?_⟩
  rw [if_pos h3]
  exact h4
theorem dangling_prb (a : NdD) (f : NdF) (A : Option Addr) (c b g1 : Nat) (w : World) (hrow : RowT b w (.slice A f.len c) f) (hb1 : Blk w g1 27 (cN a (.slice A f.len c))) (hbW : b ≤ w.heap.size) (hf : f.size ≤ 1000000) (hok : OkF f) :
  PrbS 86 #[.pointer (some ⟨g1, 0, none⟩)] (refsF f) w := fun l Jx W hW hJx hY =>
 (callsIn_wide (n := 9)).1 (dangling1_in a f A c b g1 l Jx W (hrow.under hW hbW (Nat.le_refl _)) (hb1.below hW hb1.lt) (Nat.le_trans hbW hW.size) hf hok hJx hY)
end
def fitX10 (d : SpD) (a : NdD) (k : NdF) : Bool := if d.kind = 1 then leafB d a k else if d.kind = 3 then (decide (a.kind = 0) && identX a.key) else (decide (a.kind = 0) && decide (a.key = []))
theorem head_fits (d : SpD) (a : NdD) (k : NdF) (n : Nat) : headX d a k n = if fitX10 d a k = false then some 23 else if d.kind = 3 ∧ d.most ≤ n then some 27 else none := by
 unfold headX fitX10
 by_cases h1 : d.kind = 1
 ·simp only [h1, if_true]
  cases leafB d a k <;> simp
 ·by_cases h3 : d.kind = 3
  ·simp only [h3]
   by_cases h4 : a.kind = 0
   ·cases hi : identX a.key <;> simp [h4, hi]
   ·simp [h4]
  ·simp only [h1, h3, if_false, false_and]
   by_cases h4 : a.kind = 0
   ·by_cases h5 : a.key = [] <;> simp [h4, h5]
   ·simp [h4]
theorem vfits_any (nm : List UInt8) (kd ty lo hi : Nat) (ns : List (List UInt8)) (mu : Bool) (mo : Nat) (B : Option Addr) (m d : Nat) (A : Option Addr) (kn c : Nat) (a : NdD) (k : NdF) (Ak : Option Addr) (ck : Nat) (w : World)
  (hv : Vals w d (.slice B ns.length m) (txts ns)) (hl : ns.length ≤ 1000000) (hok : OkD a) (hk : k.len ≤ 1000000) :
  Calls Tryz.prog 106 #[.agg (cT nm kd ty lo hi ns mu mo B m A kn c), .agg (cN a (.slice Ak k.len ck))] w (AnsP (.bool (fitX10 ⟨nm, kd, ty, lo, hi, ns, mu, mo⟩ a k)) w) := by
 have hb : Below w.heap.size w ((w.alloc (.cells (cT nm kd ty lo hi ns mu mo B m A kn c) 61)).alloc (.cells (cN a (.slice Ak k.len ck)) 27)) := bAl.alloc (by simp) _
 have HB := hHd hb
 have tk : (txt a.key).toList = a.key := txt_toList a.key
 have HR := hHd (vright_any nm kd ty lo hi ns mu mo B m d A kn c a.kind a.num a.text ((w.alloc (.cells (cT nm kd ty lo hi ns mu mo B m A kn c) 61)).alloc (.cells (cN a (.slice Ak k.len ck)) 27)) (hv.heap (fun h0 => hb.block d (by obtain ⟨A', c', _, _, h2⟩ := hv; exact (h2 h0).1))) hl hok.num hok.text)
 have HI : Hid (∀ W, Calls Tryz.prog 117 #[.string (txt a.key)] W (IdentP a.key W)) := hHd (fun W => ident_any a.key (by have := hok.key; omega) W)
 unfold IdentP at HI
 have i3 : (k.len : Int) ≤ 1000000 := by omega
 obtain ⟨zr, hzr⟩ : ∃ z, z = rightX ⟨nm, kd, ty, lo, hi, ns, mu, mo⟩ ⟨a.kind, a.num, a.text⟩ := ⟨_, rfl⟩
 obtain ⟨zi, hzi⟩ : ∃ z, z = identX a.key := ⟨_, rfl⟩
 obtain ⟨ff, hff⟩ : ∃ z, z = fitX10 ⟨nm, kd, ty, lo, hi, ns, mu, mo⟩ a k := ⟨_, rfl⟩
 rw [← hzr] at HR
 rw [← hzi] at HI
 rw [← hff]
 clear hb hv hok
 by_cases h1 : kd = 1
 ·subst h1
  have e : ff = (decide (a.key = []) && decide (k.len = 0) && zr) := by rw [hff, hzr]; rfl
  clear hff hzr hzi
  by_cases h5 : a.key = []
  ·skip
   have g5 : (txt a.key).toList.isEmpty = true := by rw [h5, txt_toList]; rfl
   have g5b : (!(txt a.key).toList.isEmpty) = false := by rw [g5]; rfl
   have g6 : (a.key == []) = true := by rw [h5]; rfl
   by_cases h6 : k.len = 0
   ·have HV : Hid (ff = zr) := hHd (by rw [e]; simp [h5, h6])
    have g7 : ((k.len : Int) == 0) = true := by rw [h6]; rfl
    have g8 : (k.len == 0) = true := by rw [h6]; rfl
    clear e h5 h6
    go_enter Tryz.func106, Tryz.ntmps106
    go_wp2_with fail
    refine HR.out.mono ?_
    rintro r w3 ⟨rfl, hb⟩
    have HB3 := hHd (HB.out.trans (hb.mono HB.out.size))
    clear hb
    go_wp2
    go_ret
    exact ⟨by rw [HV.out]; rfl, HB3.out⟩
   ·have HV : Hid (ff = false) := hHd (by rw [e]; simp [h6])
    have g7 : ((k.len : Int) == 0) = false := beq_eq_false_iff_ne.2 (by omega)
    have g8 : (k.len == 0) = false := beq_eq_false_iff_ne.2 h6
    clear e h5 h6
    go_enter Tryz.func106, Tryz.ntmps106
    go_wp2
    go_ret
    exact ⟨by rw [HV.out]; rfl, HB.out⟩
  ·skip
   have g5 : (txt a.key).toList.isEmpty = false := by rw [txt_toList]; simpa using h5
   have g6 : (a.key == []) = false := beq_eq_false_iff_ne.2 h5
   have HV : Hid (ff = false) := hHd (by rw [e]; simp [h5])
   clear e h5
   go_enter Tryz.func106, Tryz.ntmps106
   go_wp2
   go_ret
   exact ⟨by rw [HV.out]; rfl, HB.out⟩
 ·have e1 : ((kd : Int) == 1) = false := beq_eq_false_iff_ne.2 (by omega)
  by_cases h3 : kd = 3
  ·subst h3
   have e : ff = (decide (a.kind = 0) && zi) := by rw [hff, hzi]; rfl
   clear hff hzr hzi h1
   by_cases h4 : a.kind = 0
   ·have g4 : (a.kind == 0) = true := beq_iff_eq.2 h4
    have HV : Hid (ff = zi) := hHd (by rw [e]; simp [h4])
    clear e h4
    go_enter Tryz.func106, Tryz.ntmps106
    go_wp2_with fail
    refine (HI.out _).mono ?_
    rintro r w3 ⟨rfl, rfl⟩
    go_wp2
    go_ret
    exact ⟨by rw [HV.out]; rfl, HB.out⟩
   ·have g4 : (a.kind == 0) = false := beq_eq_false_iff_ne.2 h4
    have HV : Hid (ff = false) := hHd (by rw [e]; simp [h4])
    clear e h4
    go_enter Tryz.func106, Tryz.ntmps106
    go_wp2
    go_ret
    exact ⟨by rw [HV.out]; rfl, HB.out⟩
  ·have e3 : ((kd : Int) == 3) = false := beq_eq_false_iff_ne.2 (by omega)
   have e : ff = (decide (a.kind = 0) && decide (a.key = [])) := by rw [hff]; unfold fitX10; rw [if_neg h1, if_neg h3]
   clear hff hzr hzi h1 h3
   by_cases h4 : a.kind = 0
   ·have g4 : (a.kind == 0) = true := beq_iff_eq.2 h4
    by_cases h5 : a.key = []
    ·skip
     have g5 : (txt a.key).toList.isEmpty = true := by rw [h5, txt_toList]; rfl
     have g5b : (!(txt a.key).toList.isEmpty) = false := by rw [g5]; rfl
     have g6 : (a.key == []) = true := by rw [h5]; rfl
     have HV : Hid (ff = true) := hHd (by rw [e]; simp [h4, h5])
     clear e h4 h5
     go_enter Tryz.func106, Tryz.ntmps106
     go_wp2
     go_ret
     exact ⟨by rw [HV.out]; rfl, HB.out⟩
    ·skip
     have g5 : (txt a.key).toList.isEmpty = false := by rw [txt_toList]; simpa using h5
     have g6 : (a.key == []) = false := beq_eq_false_iff_ne.2 h5
     have HV : Hid (ff = false) := hHd (by rw [e]; simp [h5])
     clear e h4 h5
     go_enter Tryz.func106, Tryz.ntmps106
     go_wp2
     go_ret
     exact ⟨by rw [HV.out]; rfl, HB.out⟩
   ·have g4 : (a.kind == 0) = false := beq_eq_false_iff_ne.2 h4
    have HV : Hid (ff = false) := hHd (by rw [e]; simp [h4])
    clear e h4
    go_enter Tryz.func106, Tryz.ntmps106
    go_wp2
    go_ret
    exact ⟨by rw [HV.out]; rfl, HB.out⟩
end Go.Proofs.YtodlhgflfcadmaaGreat
