/- TrvD TreWithR -/
import Derived.Test.YthdhchhpjoghlaaAM0
import Derived.Test.YthdhchhpjoghlaaAM15
import Derived.Shelf.Abstract
import Derived.Test.YthdhchhpjoghlaaAM13
set_option linter.unusedSimpArgs false
set_option linter.unusedVariables false
namespace Go.Proofs.Ythdhchhpjoghlaa
open Go.RowKit
def ixP (p : NdD → Bool) : NdF → Option Nat
 | .nil => none
 | .cons a _ r => if p a = true then some 0 else (ixP p r).map (· + 1)
def ixI (p : NdD → Bool) (f : NdF) : Int := match ixP p f with
 | none => -1
 | some i => (i : Int)
theorem ix_lt {p : NdD → Bool} : ∀ {f : NdF} {i : Nat}, (∀ j, j < i → ∀ y, f.get? j = some y → p y.1 = false) → (∃ y, f.get? i = some y ∧ p y.1 = true) → ixP p f = some i := by
 intro f
 induction f with
 | nil => intro i _ ⟨y, h, _⟩; cases h
 | cons a k r _ ih =>
  intro i h1 ⟨y, h2, h3⟩
  cases i with
  | zero =>
   injection h2 with h2
   subst h2
   simp only [ixP]
   rw [if_pos h3]
  | succ i =>
   have h4 := h1 0 (by omega) (a, k) rfl
   have h5 := ih (i := i) (fun j hj y hy => h1 (j + 1) (by omega) y hy) ⟨y, h2, h3⟩
   simp only [ixP]
   rw [if_neg (by rw [h4]; simp), h5]
   rfl
theorem ix_out {p : NdD → Bool} : ∀ {f : NdF}, (∀ j, j < f.len → ∀ y, f.get? j = some y → p y.1 = false) → ixP p f = none := by
 intro f
 induction f with
 | nil => intro _; rfl
 | cons a k r _ ih =>
  intro h
  have h4 := h 0 (by simp [Fr.len]) (a, k) rfl
  simp only [ixP]
  rw [if_neg (by rw [h4]; simp), ih (fun j hj y hy => h (j + 1) (by simp only [Fr.len]; omega) y hy)]
  rfl
theorem ix_find (s : Stp) : ∀ (f : NdF), ixP (fun a => decide (stp a = s)) f = findN s f := by
 intro f
 induction f with
 | nil => rfl
 | cons a k r _ ih =>
  simp only [ixP, findN, decide_eq_true_eq]
  rw [ih]
theorem ixI_find (s : Stp) (f : NdF) : ixI (fun a => decide (stp a = s)) f = findIx s f := by
 unfold ixI findIx
 rw [ix_find]
 cases findN s f <;> rfl
set_option maxRecDepth 100000 in
set_option maxHeartbeats 2000000 in
theorem indexf_any (p : NdD → Bool) (fn : Nat) (cap : Array Value) (f : NdF) (A : Option Addr) (c : Nat) (w : World) (hk : RowT w.heap.size w (.slice A f.len c) f) (hl : f.len ≤ 1000000)
  (hq : ∀ (a : NdD) (v : Value) (W : World), v.oneCell' = true → Below w.heap.size w W → Calls Try.prog fn (#[.agg #[.string (txt a.name), .string (txt a.key), .int .i64 a.kind, .int .u64 (a.num : Int), .string (txt a.text), v]] ++ cap) W (Ans9 (.bool (p a)) W))
  (he : ∀ args W, (callFunc fn args).run Try.prog W = .ok (.enter fn args) W) :
  Calls Try.prog 61 #[.slice A f.len c, .func (.func fn) #[] cap] w (Ans9 (.int .i64 (ixI p f)) w) := by
 have HK : Hid (RowT w.heap.size w (.slice A f.len c) f) := Lib.hid hk
 have HLL : Hid (f.len ≤ 1000000) := Lib.hid hl
 have HQ := Lib.hid hq
 clear hk hl hq
 go_enter Try.func61, Try.ntmps61
 go_wp2
 go_loopw [8] (fun i wr => ∃ k : Nat, k ≤ f.len ∧ i = .int .i64 (k : Int) ∧ Hid (∀ j, j < k → ∀ y, f.get? j = some y → p y.1 = false) ∧ Below w.heap.size w wr) (fun i _ => f.len - (intOf i).toNat)
 case atStart => exact ⟨0, Nat.zero_le _, rfl, Lib.hid (fun j h => by omega), Below.refl _ _⟩
 case round =>
  obtain ⟨k, hk, rfl, HL, hB⟩ := hrel
  have HBr := Lib.hid hB
  by_cases hlt : k < f.len
  ·obtain ⟨a1, q, hg⟩ := Fr.get_some hlt
   obtain ⟨b, o, A', c', rfl, -, -, hbl, -, hcl⟩ := HK.out.at hg
   have i1 : (0 : Int) ≤ (k : Int) := by omega
   have i2 : (k : Int) < (f.len : Int) := by omega
   have i3 : (f.len : Int) ≤ 1000000 := by have := HLL.out; omega
   have hcell : ∀ i u, (ndC a1 (.slice A' q.len c'))[i]? = some u → wr.cell? ⟨b, o + k * 6 + i, none⟩ = some u := fun i u hu => (hB.cell (p := ⟨b, o + k * 6 + i, none⟩) hbl).trans (hcl i u hu)
   have s0 : (wr).cell? ⟨b, o + k * 6, none⟩ = _ := hcell 0 _ rfl
   have s1 : (wr).cell? ⟨b, o + k * 6 + 1, none⟩ = _ := hcell 1 _ rfl
   have s2 : (wr).cell? ⟨b, o + k * 6 + 2, none⟩ = _ := hcell 2 _ rfl
   have s3 : (wr).cell? ⟨b, o + k * 6 + 3, none⟩ = _ := hcell 3 _ rfl
   have s4 : (wr).cell? ⟨b, o + k * 6 + 4, none⟩ = _ := hcell 4 _ rfl
   have s5 : (wr).cell? ⟨b, o + k * 6 + 5, none⟩ = _ := hcell 5 _ rfl
   obtain ⟨rb, hrb⟩ : ∃ z, z = p a1 := ⟨_, rfl⟩
   have HC : Hid (Calls Try.prog fn (#[.agg #[.string (txt a1.name), .string (txt a1.key), .int .i64 a1.kind, .int .u64 (a1.num : Int), .string (txt a1.text), .slice A' q.len c']] ++ cap) wr (Ans9 (.bool rb) wr)) := Lib.hid (by rw [hrb]; exact HQ.out a1 _ wr rfl hB)
   have HG := Lib.hid hg
   have HRB := Lib.hid hrb
   clear hcl hg hcell hB hbl hrb
   cases rb with
   | true =>
    have HF : Hid (ixI p f = (k : Int)) := Lib.hid (by unfold ixI; rw [ix_lt HL.out ⟨_, HG.out, HRB.out.symm⟩])
    go_wp2_with fail
    refine HC.out.mono ?_
    rintro r w2 ⟨rfl, hb⟩
    have HB2 := Lib.hid (HBr.out.trans (hb.mono HBr.out.size))
    clear hb s0 s1 s2 s3 s4 s5
    go_wp2
    go_ret
    exact ⟨by rw [HF.out]; rfl, HB2.out⟩
   | false =>
    have HL2 : Hid (∀ j, j < k + 1 → ∀ y, f.get? j = some y → p y.1 = false) := Lib.hid (fun j hj y hy => by
     by_cases e : j = k
     ·subst e; rw [HG.out] at hy; injection hy with hy; subst hy; exact HRB.out.symm
     ·exact HL.out j (by omega) y hy)
    go_wp2_with fail
    refine HC.out.mono ?_
    rintro r w2 ⟨rfl, hb⟩
    have HB2 := Lib.hid (HBr.out.trans (hb.mono HBr.out.size))
    clear hb s0 s1 s2 s3 s4 s5
    go_wp2
    go_roundw
    case rel => exact ⟨k + 1, by omega, by go_num, HL2, HB2.out⟩
    case measure => simp [intOf]; omega
  ·have HF : Hid (ixI p f = -1) := Lib.hid (by unfold ixI; rw [ix_out (fun j hj y hy => HL.out j (by omega) y hy)])
   have i2 : ¬ (k : Int) < (f.len : Int) := by omega
   clear hB
   go_wp2
   go_ret
   exact ⟨by rw [HF.out]; rfl, HBr.out⟩
set_option maxRecDepth 100000 in
set_option maxHeartbeats 1000000 in
theorem find1_any (a : NdD) (v : Value) (s : Stp) (g : Nat) (w : World) (hg : Blk w g 39 #[.string (txt s.1), .string (txt s.2)]) :
  Calls Try.prog 62 #[.agg #[.string (txt a.name), .string (txt a.key), .int .i64 a.kind, .int .u64 (a.num : Int), .string (txt a.text), v], .pointer (some ⟨g, 0, none⟩)] w (Ans9 (.bool (decide (stp a = s))) w) := by
 have HQ : Hid ((Blk (w.alloc (.cells #[.string (txt a.name), .string (txt a.key), .int .i64 a.kind, .int .u64 (a.num : Int), .string (txt a.text), v] 27)).drew w.heap.size 27 #[.string (txt a.name), .string (txt a.key), .int .i64 a.kind, .int .u64 (a.num : Int), .string (txt a.text), v] ∧ Blk (w.alloc (.cells #[.string (txt a.name), .string (txt a.key), .int .i64 a.kind, .int .u64 (a.num : Int), .string (txt a.text), v] 27)).drew g 39 #[.string (txt s.1), .string (txt s.2)]) ∧ Below w.heap.size w (w.alloc (.cells #[.string (txt a.name), .string (txt a.key), .int .i64 a.kind, .int .u64 (a.num : Int), .string (txt a.text), v] 27)).drew) := Lib.hid ⟨⟨Blk.new w 27 #[.string (txt a.name), .string (txt a.key), .int .i64 a.kind, .int .u64 (a.num : Int), .string (txt a.text), v], hg.alloc _⟩, ((Below.refl _ _).alloc (Nat.le_refl _) _).drew⟩
 clear hg
 cases hs : decide (stp a = s) with
 | true =>
  have e : stp a = s := of_decide_eq_true hs
  have e1 : (txt a.name).toList = (txt s.1).toList := by rw [← e]; rfl
  have e2 : (txt a.key).toList = (txt s.2).toList := by rw [← e]; rfl
  have E1 := Lib.hid e1
  have E2 := Lib.hid e2
  clear e e1 e2 hs
  go_enter Try.func62, Try.ntmps62
  go_wp2_with fail
  refine wp_region_noPanic ?_
  refine wp_region_held_drew (S := fun _ => True) (by kernel_rfl) trivial (fun hS => ?_)
  refine held_more (S' := fun w' => Blk w' w.heap.size 27 #[.string (txt a.name), .string (txt a.key), .int .i64 a.kind, .int .u64 (a.num : Int), .string (txt a.text), v] ∧ Blk w' g 39 #[.string (txt s.1), .string (txt s.2)]) (fun _ _ => trivial) _ _ _ _ ?_
  replace hS := HQ.out.1
  refine tkH 0 hS ?_ (hy := fun w hSw => by have q0 := (hSw.1.cell 0).trans rfl; have q1 := (hSw.1.cell 1).trans rfl; have q2 := (hSw.1.cell 2).trans rfl; have q3 := (hSw.1.cell 3).trans rfl; have q4 := (hSw.1.cell 4).trans rfl; have q5 := (hSw.1.cell 5).trans rfl; (go_simp <;> with_reducible rfl))
  refine tkH 2 hS ?_ (hy := fun w hSw => by have q0 := (hSw.2.cell 0).trans rfl; have q1 := (hSw.2.cell 1).trans rfl; (go_simp <;> with_reducible rfl))
  refine wpAnyH_ready (rs := [1]) (by kernel_rfl) (by simp) ?_
  refine (AllReadyH.cons (o := ?or_0) ?ir_0 (fun K hK => ?str_0) AllReadyH.nil)
  case ir_0 => simp only [layG]; rfl
  rw [if_pos (by rfl)]
  go_simp
  refine (stepof_any a v _).mono ?_
  rintro r w3 ⟨rfl, hb3⟩
  have HS3 := Lib.hid (And.intro (HQ.out.1.1.below hb3 HQ.out.1.1.lt) (HQ.out.1.2.below hb3 HQ.out.1.2.lt))
  have HB3 := Lib.hid (HQ.out.2.trans (hb3.mono HQ.out.2.size))
  clear hb3
  go_wp2_with fail
  refine hK.out _ _ ?sr_0 (fun hS => ?_)
  case sr_0 => (exact HS3.out)
  clear hK K
  (try simp only [Act.put, layS])
  refine tkH 3 hS ?_ (hy := fun w hSw => by have e1 := E1.out; have e2 := E2.out; (go_simp <;> with_reducible rfl))
  refine tkH 4 hS ?_
  refine wpAnyH_done (by kernel_rfl) ?_ _
  refine NoPanic.normal ?_
  clear hS
  go_wp2
  go_ret
  exact ⟨rfl, HB3.out⟩
 | false =>
  have hne : stp a ≠ s := of_decide_eq_false hs
  have HE : Hid (∀ (α : Type) (R1 R0 : α), (if (txt a.name).toList = (txt s.1).toList then if (txt a.key).toList = (txt s.2).toList then R1 else R0 else R0) = R0) := Lib.hid (by
   intro α R1 R0
   simp only [txt_toList]
   split
   ·split
    ·exact absurd (Prod.ext ‹_› ‹_›) hne
    ·rfl
   ·rfl)
  clear hne hs
  go_enter Try.func62, Try.ntmps62
  go_wp2_with fail
  refine wp_region_noPanic ?_
  refine wp_region_held_drew (S := fun _ => True) (by kernel_rfl) trivial (fun hS => ?_)
  refine held_more (S' := fun w' => Blk w' w.heap.size 27 #[.string (txt a.name), .string (txt a.key), .int .i64 a.kind, .int .u64 (a.num : Int), .string (txt a.text), v] ∧ Blk w' g 39 #[.string (txt s.1), .string (txt s.2)]) (fun _ _ => trivial) _ _ _ _ ?_
  replace hS := HQ.out.1
  refine tkH 0 hS ?_ (hy := fun w hSw => by have q0 := (hSw.1.cell 0).trans rfl; have q1 := (hSw.1.cell 1).trans rfl; have q2 := (hSw.1.cell 2).trans rfl; have q3 := (hSw.1.cell 3).trans rfl; have q4 := (hSw.1.cell 4).trans rfl; have q5 := (hSw.1.cell 5).trans rfl; (go_simp <;> with_reducible rfl))
  refine tkH 2 hS ?_ (hy := fun w hSw => by have q0 := (hSw.2.cell 0).trans rfl; have q1 := (hSw.2.cell 1).trans rfl; (go_simp <;> with_reducible rfl))
  refine wpAnyH_ready (rs := [1]) (by kernel_rfl) (by simp) ?_
  refine (AllReadyH.cons (o := ?or_1) ?ir_1 (fun K hK => ?str_1) AllReadyH.nil)
  case ir_1 => simp only [layG]; rfl
  rw [if_pos (by rfl)]
  go_simp
  refine (stepof_any a v _).mono ?_
  rintro r w3 ⟨rfl, hb3⟩
  have HS3 := Lib.hid (And.intro (HQ.out.1.1.below hb3 HQ.out.1.1.lt) (HQ.out.1.2.below hb3 HQ.out.1.2.lt))
  have HB3 := Lib.hid (HQ.out.2.trans (hb3.mono HQ.out.2.size))
  clear hb3
  go_wp2_with fail
  refine hK.out _ _ ?sr_1 (fun hS => ?_)
  case sr_1 => (exact HS3.out)
  clear hK K
  (try simp only [Act.put, layS])
  refine tkH 3 hS ?_ (hy := fun w hSw => by have he := HE.out; (go_simp <;> with_reducible rfl))
  refine tkH 4 hS ?_
  refine wpAnyH_done (by kernel_rfl) ?_ _
  refine NoPanic.normal ?_
  clear hS
  go_wp2
  go_ret
  exact ⟨rfl, HB3.out⟩
set_option maxRecDepth 100000 in
set_option maxHeartbeats 1000000 in
theorem find_any (s : Stp) (f : NdF) (A : Option Addr) (c : Nat) (w : World) (hk : RowT w.heap.size w (.slice A f.len c) f) (hl : f.len ≤ 1000000) :
  Calls Try.prog 58 #[.slice A f.len c, .agg #[.string (txt s.1), .string (txt s.2)]] w (Ans9 (.int .i64 (findIx s f)) w) := by
 have hb : Blk (w.alloc (.cells #[.string (txt s.1), .string (txt s.2)] 39)) w.heap.size 39 #[.string (txt s.1), .string (txt s.2)] := Blk.new _ _ _
 have hB : Below w.heap.size w (w.alloc (.cells #[.string (txt s.1), .string (txt s.2)] 39)) := (Below.refl _ _).alloc (Nat.le_refl _) _
 have HC : Hid (Calls Try.prog 61 #[.slice A f.len c, .func (.func 62) #[] #[.pointer (some ⟨w.heap.size, 0, none⟩)]] (w.alloc (.cells #[.string (txt s.1), .string (txt s.2)] 39)) (Ans9 (.int .i64 (findIx s f)) (w.alloc (.cells #[.string (txt s.1), .string (txt s.2)] 39)))) := Lib.hid (by
  rw [← ixI_find]
  exact indexf_any (fun a => decide (stp a = s)) 62 #[.pointer (some ⟨w.heap.size, 0, none⟩)] f A c (w.alloc (.cells #[.string (txt s.1), .string (txt s.2)] 39)) (hk.below hB) hl
   (fun a v W _ hW => find1_any a v s w.heap.size W (hb.below hW hb.lt)) (fun _ _ => Go.Proofs.enters_of Try.func62 (by kernel_rfl) rfl _ _))
 have HB := Lib.hid hB
 clear hb hB hk hl
 go_enter Try.func58, Try.ntmps58
 go_wp2_with fail
 refine HC.out.mono ?_
 rintro r w2 ⟨rfl, hb⟩
 have HB2 := Lib.hid (HB.out.trans (hb.mono HB.out.size))
 clear hb
 go_wp2
 go_ret
 exact ⟨rfl, HB2.out⟩
def NodeAt (w : World) (g o : Nat) (x : Nd) : Prop := g < w.heap.size ∧ ∃ A c, (∀ j u, (ndC x.1 (.slice A x.2.len c))[j]? = some u → w.cell? ⟨g, o + j, none⟩ = some u) ∧ RowT w.heap.size w (.slice A x.2.len c) x.2
theorem NodeAt.below {w w' : World} {g o : Nat} {x : Nd} (h : NodeAt w g o x) (hb : Below w.heap.size w w') : NodeAt w' g o x := by
 obtain ⟨h0, A, c, h1, h2⟩ := h
 exact ⟨Nat.lt_of_lt_of_le h0 hb.size, A, c, fun j u hu => (hb.cell (p := ⟨g, o + j, none⟩) h0).trans (h1 j u hu), h2.below hb⟩
def PAt (w : World) : Nd → List Stp → Nat → Nat → Nat → Nat → Prop
 | _, [], g, o, g', o' => g' = g ∧ o' = o
 | x, s :: l, g, o, g', o' => ∃ i y b p n c, findN s x.2 = some i ∧ x.2.get? i = some y ∧ w.cell? ⟨g, o + 5, none⟩ = some (.slice (some ⟨b, p, none⟩) n c) ∧ PAt w y l b (p + i * 6) g' o'
def AtP (x : Nd) (l : List Stp) (g o : Nat) (w : World) (r : Ending) (w' : World) : Prop :=
 Below w.heap.size w w' ∧ ((getX x l = none ∧ r = .returned (.pointer none)) ∨ ∃ y g' o', getX x l = some y ∧ r = .returned (.pointer (some ⟨g', o', none⟩)) ∧ NodeAt w g' o' y ∧ PAt w x l g o g' o')
theorem getX_none {x : Nd} {s : Stp} {l : List Stp} (h : findN s x.2 = none) : getX x (s :: l) = none := by simp only [getX]; rw [findN_none h]
theorem getX_some {x y : Nd} {s : Stp} {l : List Stp} {i : Nat} (h : findN s x.2 = some i) (hy : x.2.get? i = some y) : getX x (s :: l) = getX y l := by
 simp only [getX]
 obtain ⟨z, h1, h2, h3⟩ := find_stp h
 rw [hy] at h1
 injection h1 with h1
 rw [h3, ← h1]
def Rest9 (w : World) (x : Nd) (l : List Stp) (g o : Nat) (y : Nd) (j g1 o1 : Nat) : Prop := getX x l = getX y (l.drop j) ∧ NodeAt w g1 o1 y ∧ y.2.size ≤ 1000000 ∧ ∀ g' o', PAt w y (l.drop j) g1 o1 g' o' → PAt w x l g o g' o'
set_option maxRecDepth 100000 in
set_option maxHeartbeats 4000000 in
theorem at_any (x : Nd) (l : List Stp) (g o : Nat) (v : Value) (w : World) (hx : NodeAt w g o x) (hv : WayV w.heap.size w v l) (hf : Few9 x) (hll : l.length ≤ 1000000) :
  Calls Try.prog 55 #[.pointer (some ⟨g, o, none⟩), v] w (AtP x l g o w) := by
 obtain ⟨B, m, rfl⟩ := hv.shape
 have HV : Hid (WayV w.heap.size w (.slice B l.length m) l) := Lib.hid hv
 have HLL : Hid (l.length ≤ 1000000) := Lib.hid hll
 have HR0 : Hid (Rest9 w x l g o x 0 g o) := Lib.hid ⟨rfl, hx, hf, fun _ _ h => h⟩
 clear hx hv hf hll
 go_enter Try.func55, Try.ntmps55
 go_wp2
 go_loopw [0, 10] (fun n i wr => ∃ (j g1 o1 : Nat) (y : Nd), j ≤ l.length ∧ i = .int .i64 (j : Int) ∧ n = .pointer (some ⟨g1, o1, none⟩) ∧ Hid (Rest9 w x l g o y j g1 o1) ∧ Below w.heap.size w wr) (fun _ i _ => l.length - (intOf i).toNat)
 case atStart => exact ⟨0, g, o, x, Nat.zero_le _, rfl, rfl, HR0, Below.refl _ _⟩
 case round =>
  clear HR0
  obtain ⟨j, g1, o1, y, hj, rfl, rfl, HR, hB⟩ := hrel
  have HBr := Lib.hid hB
  by_cases hlt : j < l.length
  ·obtain ⟨s, hs⟩ : ∃ s, l[j]? = some s := ⟨_, List.getElem?_eq_getElem hlt⟩
   have hdr : l.drop j = s :: l.drop (j + 1) := by
    rw [List.drop_eq_getElem_cons hlt]
    rw [List.getElem?_eq_getElem hlt] at hs
    injection hs with hs
    rw [hs]
   obtain ⟨gv, ov, rfl, -, hmm, hgv, t0, t1⟩ := HV.out.at hs
   obtain ⟨a, f⟩ := y
   obtain ⟨-, hnd, hys, hpa⟩ := HR.out
   have hnd0 := hnd
   obtain ⟨hg1, A, c, hcl, hrow⟩ := hnd
   have i1 : (0 : Int) ≤ (j : Int) := by omega
   have i2 : (j : Int) < (l.length : Int) := by omega
   have i3 : (l.length : Int) ≤ 1000000 := by have := HLL.out; omega
   have s0 : wr.cell? ⟨gv, ov + j * 2, none⟩ = some (.string (txt s.1)) := (hB.cell (p := ⟨gv, ov + j * 2, none⟩) hgv).trans t0
   have s1 : wr.cell? ⟨gv, ov + j * 2 + 1, none⟩ = some (.string (txt s.2)) := (hB.cell (p := ⟨gv, ov + j * 2 + 1, none⟩) hgv).trans t1
   have hBS : Below w.heap.size w (wr.alloc (.cells #[.string (txt s.1), .string (txt s.2)] 39)) := hB.alloc hB.size _
   have HS0 : Hid ((∀ j u, (ndC a (.slice A f.len c))[j]? = some u → (wr.alloc (.cells #[.string (txt s.1), .string (txt s.2)] 39)).drew.cell? ⟨g1, o1 + j, none⟩ = some u) ∧ Blk (wr.alloc (.cells #[.string (txt s.1), .string (txt s.2)] 39)).drew wr.heap.size 39 #[.string (txt s.1), .string (txt s.2)]) := Lib.hid ⟨fun j u hu => (hBS.drew.cell (p := ⟨g1, o1 + j, none⟩) hg1).trans (hcl j u hu), Blk.new wr 39 #[.string (txt s.1), .string (txt s.2)]⟩
   have HFi : Hid (Calls Try.prog 58 #[.slice A f.len c, .agg #[.string (txt s.1), .string (txt s.2)]] (wr.alloc (.cells #[.string (txt s.1), .string (txt s.2)] 39)).drew (Ans9 (.int .i64 (findIx s f)) (wr.alloc (.cells #[.string (txt s.1), .string (txt s.2)] 39)).drew)) := Lib.hid (find_any s f A c (wr.alloc (.cells #[.string (txt s.1), .string (txt s.2)] 39)).drew (hrow.under hBS.drew (Nat.le_refl _) hBS.drew.size) (Nat.le_trans (Fr.len_size f) hys))
   have HG1 := Lib.hid hg1
   have HBS := Lib.hid hBS.drew
   have HN := Lib.hid hcl
   have HRW := Lib.hid hrow
   have HYS := Lib.hid hys
   have HDR := Lib.hid hdr
   obtain ⟨z, hz⟩ : ∃ z, z = findIx s f := ⟨_, rfl⟩
   rw [← hz] at HFi
   have HZ := Lib.hid hz
   clear hs t0 t1 hgv hmm hnd0 hcl hrow hys hpa hdr hBS hB hg1 hz
   go_wp2_with fail
   refine wp_region_noPanic ?_
   refine wp_region_held_drew (S := fun _ => True) (by kernel_rfl) trivial (fun hS => ?_)
   refine held_more (S' := fun w' => (∀ j u, (ndC a (.slice A f.len c))[j]? = some u → w'.cell? ⟨g1, o1 + j, none⟩ = some u) ∧ Blk w' wr.heap.size 39 #[.string (txt s.1), .string (txt s.2)]) (fun _ _ => trivial) _ _ _ _ ?_
   replace hS := HS0.out
   refine tkH 0 hS ?_
   refine tkH 1 hS ?_
   refine tkH 2 hS ?_
   refine tkH 3 hS ?_ (hy := fun w hSw => by have q5 := hSw.1 5 _ rfl; (go_simp <;> with_reducible rfl))
   refine tkH 4 hS ?_ (hy := fun w hSw => by have q0 := (hSw.2.cell 0).trans rfl; have q1 := (hSw.2.cell 1).trans rfl; (go_simp <;> with_reducible rfl))
   refine wpAnyH_ready (rs := [5]) (by kernel_rfl) (by simp) ?_
   refine (AllReadyH.cons (o := ?or_2) ?ir_2 (fun K hK => ?str_2) AllReadyH.nil)
   case ir_2 => simp only [layG]; rfl
   rw [if_pos (by rfl)]
   go_simp
   refine HFi.out.mono ?_
   rintro r w3 ⟨rfl, hb3⟩
   have HS3 := Lib.hid (And.intro (fun j u hu => (hb3.cell (p := ⟨g1, o1 + j, none⟩) (Nat.lt_of_lt_of_le HG1.out HBS.out.size)).trans (HS0.out.1 j u hu)) (HS0.out.2.below hb3 HS0.out.2.lt))
   have HB3 := Lib.hid (HBS.out.trans (hb3.mono HBS.out.size))
   clear hb3
   go_wp2_with fail
   refine hK.out _ _ ?sr_2 (fun hS => ?_)
   case sr_2 => (exact HS3.out)
   clear hK K
   (try simp only [Act.put, layS])
   refine tkH 6 hS ?_
   refine wpAnyH_done (by kernel_rfl) ?_ _
   refine NoPanic.normal ?_
   clear hS s0 s1
   cases hfi : findN s f with
   | none =>
    have hz2 : z = -1 := by rw [HZ.out]; unfold findIx; rw [hfi]
    have HE : Hid (getX x l = none) := Lib.hid (by rw [HR.out.1, HDR.out]; exact getX_none hfi)
    subst hz2
    clear hfi
    go_wp2
    go_ret
    exact ⟨HB3.out, .inl ⟨HE.out, rfl⟩⟩
   | some i =>
    obtain ⟨⟨a1, q⟩, hy, -, -⟩ := find_stp hfi
    have hz2 : z = (i : Int) := by rw [HZ.out]; unfold findIx; rw [hfi]
    have hi := Fr.get_lt hy
    obtain ⟨b, p, A1, c1, rfl, -, -, hbl, hr1, hc1⟩ := HRW.out.at hy
    have j1 : (0 : Int) ≤ (i : Int) := by omega
    have j2 : (i : Int) < (f.len : Int) := by omega
    have j3 : ¬ (i : Int) < 0 := by omega
    have j4 : decide ((i : Int) < 0) = false := decide_eq_false (by omega)
    have q5 : w3.cell? ⟨g1, o1 + 5, none⟩ = some (.slice (some ⟨b, p, none⟩) f.len c) := HS3.out.1 5 _ rfl
    have HR2 : Hid (Rest9 w x l g o (a1, q) (j + 1) b (p + i * 6)) := Lib.hid ⟨by rw [HR.out.1, HDR.out]; exact getX_some hfi hy, ⟨hbl, A1, c1, hc1, hr1⟩, by have := Fr.size_get hy; have := HYS.out; show q.size ≤ 1000000; omega, fun g' o' h => HR.out.2.2.2 g' o' (by rw [HDR.out]; exact ⟨i, (a1, q), b, p, f.len, c, hfi, hy, HN.out 5 _ rfl, h⟩)⟩
    subst hz2
    clear hfi hy hbl hr1 hc1 hi
    go_wp2
    go_roundw
    case rel => exact ⟨j + 1, b, p + i * 6, (a1, q), by omega, by go_num, rfl, HR2, HB3.out⟩
    case measure => simp [intOf]; omega
  ·have i2 : ¬ (j : Int) < (l.length : Int) := by omega
   have HE : Hid (getX x l = some y ∧ NodeAt w g1 o1 y ∧ PAt w x l g o g1 o1) := Lib.hid (by
    obtain ⟨h1, h2, -, h3⟩ := HR.out
    rw [show l.drop j = [] from List.drop_eq_nil_of_le (by omega)] at h1 h3
    exact ⟨h1, h2, h3 _ _ ⟨rfl, rfl⟩⟩)
   clear hB
   go_wp2
   go_ret
   exact ⟨HBr.out, .inr ⟨y, g1, o1, HE.out.1, rfl, HE.out.2.1, HE.out.2.2⟩⟩
end Go.Proofs.Ythdhchhpjoghlaa
namespace Go.Proofs.Ythdhchhpjoghlaa
open Go.RowKit
theorem Try.cellsNd : (Try.prog.info? 27).map (fun i => (i.zero, i.size, i.bytes)) = some (some (.agg #[.string ⟨#[]⟩, .string ⟨#[]⟩, .int .i64 0, .int .u64 0, .string ⟨#[]⟩, .slice none 0 0]), 6, 88) := by kernel_rfl
end Go.Proofs.Ythdhchhpjoghlaa
