/- PtvAt -/
import Derived.Test.YtikmilcdibldhaaDoorAM0
import Derived.Test.YtikmilcdibldhaaDoorAM10
import Derived.Test.YtikmilcdibldhaaDoorAM27
set_option linter.unusedSimpArgs false
set_option linter.unusedVariables false
namespace Go.Proofs.YtikmilcdibldhaaDoor
open Go.RowKit
theorem SpP.rng {x : Sp × Nat} {w : World} {r : Ending} {w' : World} (h : SpP x w r w') : RSpP x w r w' := by
 obtain ⟨cs, e, ⟨S, N, hS, hN, h⟩, hb⟩ := h
 exact ⟨cs, e, h.mono stay_spc (fun g hg => ⟨(hS g hg).1, (hS g hg).lt⟩) (fun g hg => ⟨(hN g hg).1.1, (hN g hg).1.lt⟩), hb⟩
inductive Veil15 (P : Prop) : Prop
 | mk (h : P)
theorem Veil15.out {P : Prop} (h : Veil15 P) : P := by cases h; assumption
def fitX (kd : Nat) (k : List UInt8) : Bool := if kd = 3 then identX k else k.isEmpty
theorem fit_bad {kd : Nat} {k : List UInt8} (h : fitX kd k = false) : (kd = 3 ∧ identX k = false) ∨ (kd ≠ 3 ∧ k ≠ []) := by
 unfold fitX at h
 by_cases h3 : kd = 3
 ·rw [if_pos h3] at h; exact .inl ⟨h3, h⟩
 ·rw [if_neg h3] at h; exact .inr ⟨h3, fun e => by subst e; cases h⟩
theorem fit_good {kd : Nat} {k : List UInt8} (h : fitX kd k = true) : ¬ ((kd = 3 ∧ identX k = false) ∨ (kd ≠ 3 ∧ k ≠ [])) := by
 unfold fitX at h
 by_cases h3 : kd = 3
 ·rw [if_pos h3] at h
  rintro (⟨_, e⟩ | ⟨e, _⟩)
  ·rw [h] at e; cases e
  ·exact e h3
 ·rw [if_neg h3] at h
  rintro (⟨e, _⟩ | ⟨_, e⟩)
  ·exact h3 e
  ·exact e (List.isEmpty_iff.1 h)
set_option maxRecDepth 100000 in
set_option maxHeartbeats 4000000 in
theorem fits15_any (x : Sp) (B A : Option Addr) (m c : Nat) (k : List UInt8) (hk : k.length ≤ 9223372036854775807) (w : World) : Calls Tryd.prog 27 #[.agg #[.string (txt x.1.name), .int .i64 (x.1.kind : Int), .int .i64 (x.1.typ : Int), .int .u64 (x.1.low : Int), .int .u64 (x.1.high : Int), .slice B x.1.names.length m, .bool x.1.must, .int .i64 (x.1.most : Int), .slice A x.2.len c], .string (txt k)] w (AnsP (.bool (fitX x.1.kind k)) w) := by
 have H0 : Hid (Below w.heap.size w (w.alloc (.cells #[.string (txt x.1.name), .int .i64 (x.1.kind : Int), .int .i64 (x.1.typ : Int), .int .u64 (x.1.low : Int), .int .u64 (x.1.high : Int), .slice B x.1.names.length m, .bool x.1.must, .int .i64 (x.1.most : Int), .slice A x.2.len c] 34))) := Lib.hid ((Below.refl _ _).alloc (Nat.le_refl _) _)
 have R0 : Hid (Blk (w.alloc (.cells #[.string (txt x.1.name), .int .i64 (x.1.kind : Int), .int .i64 (x.1.typ : Int), .int .u64 (x.1.low : Int), .int .u64 (x.1.high : Int), .slice B x.1.names.length m, .bool x.1.must, .int .i64 (x.1.most : Int), .slice A x.2.len c] 34)) w.heap.size 34 #[.string (txt x.1.name), .int .i64 (x.1.kind : Int), .int .i64 (x.1.typ : Int), .int .u64 (x.1.low : Int), .int .u64 (x.1.high : Int), .slice B x.1.names.length m, .bool x.1.must, .int .i64 (x.1.most : Int), .slice A x.2.len c]) := Lib.hid (Blk.new w _ _)
 have y1 : (w.alloc (.cells #[.string (txt x.1.name), .int .i64 (x.1.kind : Int), .int .i64 (x.1.typ : Int), .int .u64 (x.1.low : Int), .int .u64 (x.1.high : Int), .slice B x.1.names.length m, .bool x.1.must, .int .i64 (x.1.most : Int), .slice A x.2.len c] 34)).cell? ⟨w.heap.size, 1, none⟩ = some (.int .i64 (x.1.kind : Int)) := (R0.out.cell 1).trans rfl
 have tk : (txt k).toList = k := txt_toList k
 have HI := Lib.hid (ident_any k hk (w.alloc (.cells #[.string (txt x.1.name), .int .i64 (x.1.kind : Int), .int .i64 (x.1.typ : Int), .int .u64 (x.1.low : Int), .int .u64 (x.1.high : Int), .slice B x.1.names.length m, .bool x.1.must, .int .i64 (x.1.most : Int), .slice A x.2.len c] 34)))
 by_cases h3 : x.1.kind = 3
 ·have HF : Hid (fitX x.1.kind k = identX k) := Lib.hid (if_pos h3)
  have n1 : ((x.1.kind : Int) == 3) = true := by rw [h3]; rfl
  have n2 : (x.1.kind == 3) = true := beq_iff_eq.2 h3
  clear h3
  go_enter Tryd.func27, Tryd.ntmps27
  go_wp2_with fail
  refine HI.out.mono ?_
  rintro r w1 ⟨rfl, rfl⟩
  clear HI
  go_wp2
  go_ret
  exact ⟨by rw [HF.out]; rfl, H0.out⟩
 ·have n1 : ((x.1.kind : Int) == 3) = false := beq_eq_false_iff_ne.2 (by omega)
  have n2 : (x.1.kind == 3) = false := beq_eq_false_iff_ne.2 h3
  have HF : Hid (fitX x.1.kind k = k.isEmpty) := Lib.hid (if_neg h3)
  clear h3 HI
  by_cases h0 : k = []
  ·subst h0
   have e0 : txt [] = (⟨#[]⟩ : ByteArray) := rfl
   go_enter Tryd.func27, Tryd.ntmps27
   go_wp2
   go_ret
   exact ⟨by rw [HF.out]; rfl, H0.out⟩
  ·have g1 : k.isEmpty = false := by simpa using h0
   have g2 : (k == []) = false := beq_eq_false_iff_ne.2 h0
   clear h0
   go_enter Tryd.func27, Tryd.ntmps27
   go_wp2
   go_ret
   exact ⟨by rw [HF.out, g1]; rfl, H0.out⟩
set_option maxRecDepth 100000 in
set_option maxHeartbeats 4000000 in
theorem at15_no (v : Int) (l : List Stp) (nv : Value) (w : World) (hv : v < 1 ∨ 3 < v) (hn : WayV w.heap.size w nv l) : Calls Tryd.prog 12 #[.int .i64 v, nv] w (RSpP (atP v l) w) := by
 have hx0 : atP v l = ((zeroD, .nil), 28) := by unfold atP; rw [if_pos hv]
 have e1 : rootX v = ((zeroD, .nil), 28) := by unfold rootX; rw [if_pos hv]
 have HX := Lib.hid hx0
 obtain ⟨z, hz⟩ : ∃ z : Sp, z = (zeroD, .nil) := ⟨_, rfl⟩
 rw [← hz] at e1
 clear hz hx0
 have NR : ∀ W, Hid (Calls Tryd.prog 26 #[.int .i64 v] W (fun r w' => ∃ cs, r = .returned (.tuple #[.agg cs.toArray, .int .i64 28]) ∧ SpN w' (Rng W.heap.size w'.heap.size) (Rng W.heap.size w'.heap.size) cs z ∧ Below W.heap.size W w')) := fun W => Lib.hid ((root_any v W).mono fun r w' h => by have h := h.rng; rw [e1] at h; exact h)
 obtain ⟨An, cn, rfl⟩ := hn.shape
 have H0 : Hid (Below w.heap.size w (w.alloc (.cells #[.string ⟨#[]⟩, .int .i64 0, .int .i64 0, .int .u64 0, .int .u64 0, .slice none 0 0, .bool false, .int .i64 0, .slice none 0 0] 34))) := Lib.hid ((Below.refl _ _).alloc (Nat.le_refl _) _)
 have R0 : Hid (Blk (w.alloc (.cells #[.string ⟨#[]⟩, .int .i64 0, .int .i64 0, .int .u64 0, .int .u64 0, .slice none 0 0, .bool false, .int .i64 0, .slice none 0 0] 34)) w.heap.size 34 #[.string ⟨#[]⟩, .int .i64 0, .int .i64 0, .int .u64 0, .int .u64 0, .slice none 0 0, .bool false, .int .i64 0, .slice none 0 0]) := Lib.hid (Blk.new w _ _)
 clear e1 hn hv
 go_enter Tryd.func12, Tryd.ntmps12
 go_wp2_with fail
 refine (NR _).out.mono ?_
 rintro r w1 ⟨cs, rfl, hc, hB⟩
 obtain ⟨B, m, A, c, dn, rfl, -, -, -⟩ := hc.shape
 have H1 := Lib.hid (H0.out.trans (hB.mono H0.out.size))
 have R1 := Lib.hid (R0.out.below hB R0.out.lt)
 have H2 : Hid (Below w.heap.size w (w1.alloc (.cells #[.string (txt z.1.name), .int .i64 (z.1.kind : Int), .int .i64 (z.1.typ : Int), .int .u64 (z.1.low : Int), .int .u64 (z.1.high : Int), .slice B z.1.names.length m, .bool z.1.must, .int .i64 (z.1.most : Int), .slice A z.2.len c] 34))) := Lib.hid (H1.out.alloc H1.out.size _)
 have R2 : Hid (Blk (w1.alloc (.cells #[.string (txt z.1.name), .int .i64 (z.1.kind : Int), .int .i64 (z.1.typ : Int), .int .u64 (z.1.low : Int), .int .u64 (z.1.high : Int), .slice B z.1.names.length m, .bool z.1.must, .int .i64 (z.1.most : Int), .slice A z.2.len c] 34)) w.heap.size 34 #[.string ⟨#[]⟩, .int .i64 0, .int .i64 0, .int .u64 0, .int .u64 0, .slice none 0 0, .bool false, .int .i64 0, .slice none 0 0]) := Lib.hid (R1.out.alloc _)
 have RE : Hid (Blk (set9 (w1.alloc (.cells #[.string (txt z.1.name), .int .i64 (z.1.kind : Int), .int .i64 (z.1.typ : Int), .int .u64 (z.1.low : Int), .int .u64 (z.1.high : Int), .slice B z.1.names.length m, .bool z.1.must, .int .i64 (z.1.most : Int), .slice A z.2.len c] 34)) w.heap.size (.string ⟨#[]⟩) (.int .i64 0) (.int .i64 0) (.int .u64 0) (.int .u64 0) (.slice none 0 0) (.bool false) (.int .i64 0) (.slice none 0 0)) w.heap.size 34 #[.string ⟨#[]⟩, .int .i64 0, .int .i64 0, .int .u64 0, .int .u64 0, .slice none 0 0, .bool false, .int .i64 0, .slice none 0 0]) := Lib.hid (R2.out.set9 _ _ _ _ _ _ _ _ _)
 have HE : Hid (Below w.heap.size w (set9 (w1.alloc (.cells #[.string (txt z.1.name), .int .i64 (z.1.kind : Int), .int .i64 (z.1.typ : Int), .int .u64 (z.1.low : Int), .int .u64 (z.1.high : Int), .slice B z.1.names.length m, .bool z.1.must, .int .i64 (z.1.most : Int), .slice A z.2.len c] 34)) w.heap.size (.string ⟨#[]⟩) (.int .i64 0) (.int .i64 0) (.int .u64 0) (.int .u64 0) (.slice none 0 0) (.bool false) (.int .i64 0) (.slice none 0 0))) := Lib.hid (H2.out.trans (set9_below (Nat.le_refl _)))
 have f0 : (w1.alloc (.cells #[.string (txt z.1.name), .int .i64 (z.1.kind : Int), .int .i64 (z.1.typ : Int), .int .u64 (z.1.low : Int), .int .u64 (z.1.high : Int), .slice B z.1.names.length m, .bool z.1.must, .int .i64 (z.1.most : Int), .slice A z.2.len c] 34)).frozen? ⟨w.heap.size, 0, none⟩ = false := R2.out.frozen 0
 have q0 : (w1.alloc (.cells #[.string (txt z.1.name), .int .i64 (z.1.kind : Int), .int .i64 (z.1.typ : Int), .int .u64 (z.1.low : Int), .int .u64 (z.1.high : Int), .slice B z.1.names.length m, .bool z.1.must, .int .i64 (z.1.most : Int), .slice A z.2.len c] 34)).cell? ⟨w.heap.size, 0, none⟩ = _ := (R2.out.cell 0).trans rfl
 have f1 : (w1.alloc (.cells #[.string (txt z.1.name), .int .i64 (z.1.kind : Int), .int .i64 (z.1.typ : Int), .int .u64 (z.1.low : Int), .int .u64 (z.1.high : Int), .slice B z.1.names.length m, .bool z.1.must, .int .i64 (z.1.most : Int), .slice A z.2.len c] 34)).frozen? ⟨w.heap.size, 1, none⟩ = false := R2.out.frozen 1
 have q1 : (w1.alloc (.cells #[.string (txt z.1.name), .int .i64 (z.1.kind : Int), .int .i64 (z.1.typ : Int), .int .u64 (z.1.low : Int), .int .u64 (z.1.high : Int), .slice B z.1.names.length m, .bool z.1.must, .int .i64 (z.1.most : Int), .slice A z.2.len c] 34)).cell? ⟨w.heap.size, 1, none⟩ = _ := (R2.out.cell 1).trans rfl
 have f2 : (w1.alloc (.cells #[.string (txt z.1.name), .int .i64 (z.1.kind : Int), .int .i64 (z.1.typ : Int), .int .u64 (z.1.low : Int), .int .u64 (z.1.high : Int), .slice B z.1.names.length m, .bool z.1.must, .int .i64 (z.1.most : Int), .slice A z.2.len c] 34)).frozen? ⟨w.heap.size, 2, none⟩ = false := R2.out.frozen 2
 have q2 : (w1.alloc (.cells #[.string (txt z.1.name), .int .i64 (z.1.kind : Int), .int .i64 (z.1.typ : Int), .int .u64 (z.1.low : Int), .int .u64 (z.1.high : Int), .slice B z.1.names.length m, .bool z.1.must, .int .i64 (z.1.most : Int), .slice A z.2.len c] 34)).cell? ⟨w.heap.size, 2, none⟩ = _ := (R2.out.cell 2).trans rfl
 have f3 : (w1.alloc (.cells #[.string (txt z.1.name), .int .i64 (z.1.kind : Int), .int .i64 (z.1.typ : Int), .int .u64 (z.1.low : Int), .int .u64 (z.1.high : Int), .slice B z.1.names.length m, .bool z.1.must, .int .i64 (z.1.most : Int), .slice A z.2.len c] 34)).frozen? ⟨w.heap.size, 3, none⟩ = false := R2.out.frozen 3
 have q3 : (w1.alloc (.cells #[.string (txt z.1.name), .int .i64 (z.1.kind : Int), .int .i64 (z.1.typ : Int), .int .u64 (z.1.low : Int), .int .u64 (z.1.high : Int), .slice B z.1.names.length m, .bool z.1.must, .int .i64 (z.1.most : Int), .slice A z.2.len c] 34)).cell? ⟨w.heap.size, 3, none⟩ = _ := (R2.out.cell 3).trans rfl
 have f4 : (w1.alloc (.cells #[.string (txt z.1.name), .int .i64 (z.1.kind : Int), .int .i64 (z.1.typ : Int), .int .u64 (z.1.low : Int), .int .u64 (z.1.high : Int), .slice B z.1.names.length m, .bool z.1.must, .int .i64 (z.1.most : Int), .slice A z.2.len c] 34)).frozen? ⟨w.heap.size, 4, none⟩ = false := R2.out.frozen 4
 have q4 : (w1.alloc (.cells #[.string (txt z.1.name), .int .i64 (z.1.kind : Int), .int .i64 (z.1.typ : Int), .int .u64 (z.1.low : Int), .int .u64 (z.1.high : Int), .slice B z.1.names.length m, .bool z.1.must, .int .i64 (z.1.most : Int), .slice A z.2.len c] 34)).cell? ⟨w.heap.size, 4, none⟩ = _ := (R2.out.cell 4).trans rfl
 have f5 : (w1.alloc (.cells #[.string (txt z.1.name), .int .i64 (z.1.kind : Int), .int .i64 (z.1.typ : Int), .int .u64 (z.1.low : Int), .int .u64 (z.1.high : Int), .slice B z.1.names.length m, .bool z.1.must, .int .i64 (z.1.most : Int), .slice A z.2.len c] 34)).frozen? ⟨w.heap.size, 5, none⟩ = false := R2.out.frozen 5
 have q5 : (w1.alloc (.cells #[.string (txt z.1.name), .int .i64 (z.1.kind : Int), .int .i64 (z.1.typ : Int), .int .u64 (z.1.low : Int), .int .u64 (z.1.high : Int), .slice B z.1.names.length m, .bool z.1.must, .int .i64 (z.1.most : Int), .slice A z.2.len c] 34)).cell? ⟨w.heap.size, 5, none⟩ = _ := (R2.out.cell 5).trans rfl
 have f6 : (w1.alloc (.cells #[.string (txt z.1.name), .int .i64 (z.1.kind : Int), .int .i64 (z.1.typ : Int), .int .u64 (z.1.low : Int), .int .u64 (z.1.high : Int), .slice B z.1.names.length m, .bool z.1.must, .int .i64 (z.1.most : Int), .slice A z.2.len c] 34)).frozen? ⟨w.heap.size, 6, none⟩ = false := R2.out.frozen 6
 have q6 : (w1.alloc (.cells #[.string (txt z.1.name), .int .i64 (z.1.kind : Int), .int .i64 (z.1.typ : Int), .int .u64 (z.1.low : Int), .int .u64 (z.1.high : Int), .slice B z.1.names.length m, .bool z.1.must, .int .i64 (z.1.most : Int), .slice A z.2.len c] 34)).cell? ⟨w.heap.size, 6, none⟩ = _ := (R2.out.cell 6).trans rfl
 have f7 : (w1.alloc (.cells #[.string (txt z.1.name), .int .i64 (z.1.kind : Int), .int .i64 (z.1.typ : Int), .int .u64 (z.1.low : Int), .int .u64 (z.1.high : Int), .slice B z.1.names.length m, .bool z.1.must, .int .i64 (z.1.most : Int), .slice A z.2.len c] 34)).frozen? ⟨w.heap.size, 7, none⟩ = false := R2.out.frozen 7
 have q7 : (w1.alloc (.cells #[.string (txt z.1.name), .int .i64 (z.1.kind : Int), .int .i64 (z.1.typ : Int), .int .u64 (z.1.low : Int), .int .u64 (z.1.high : Int), .slice B z.1.names.length m, .bool z.1.must, .int .i64 (z.1.most : Int), .slice A z.2.len c] 34)).cell? ⟨w.heap.size, 7, none⟩ = _ := (R2.out.cell 7).trans rfl
 have f8 : (w1.alloc (.cells #[.string (txt z.1.name), .int .i64 (z.1.kind : Int), .int .i64 (z.1.typ : Int), .int .u64 (z.1.low : Int), .int .u64 (z.1.high : Int), .slice B z.1.names.length m, .bool z.1.must, .int .i64 (z.1.most : Int), .slice A z.2.len c] 34)).frozen? ⟨w.heap.size, 8, none⟩ = false := R2.out.frozen 8
 have q8 : (w1.alloc (.cells #[.string (txt z.1.name), .int .i64 (z.1.kind : Int), .int .i64 (z.1.typ : Int), .int .u64 (z.1.low : Int), .int .u64 (z.1.high : Int), .slice B z.1.names.length m, .bool z.1.must, .int .i64 (z.1.most : Int), .slice A z.2.len c] 34)).cell? ⟨w.heap.size, 8, none⟩ = _ := (R2.out.cell 8).trans rfl
 clear hB hc
 go_wp2
 refine bodyPost_ret (res_cell_tmp rfl _ _ w.heap.size 34 _ (0, 0) _ rfl RE.out Tryd.underlying34 rfl (by kernel_rfl)) rfl ?_
 exact ⟨spC zeroD (.slice none 0 0) (.slice none 0 0), by rw [HX.out]; rfl, by rw [HX.out]; exact leaf_n rfl, HE.out⟩
set_option maxRecDepth 100000 in
set_option maxHeartbeats 8000000 in
theorem at15_in (v : Int) (l : List Stp) (nv : Value) (w : World) (h1 : 1 ≤ v) (h3 : v ≤ 3) (hn : WayV w.heap.size w nv l) (hl : l.length ≤ 1000000) (hsz : ∀ s ∈ l, s.2.length ≤ 9223372036854775807) : Calls Tryd.prog 12 #[.int .i64 v, nv] w (RSpP (atP v l) w) := by
 have hno : ¬ (v < 1 ∨ 3 < v) := by omega
 have HAT : Hid (atP v l = goA (rootD, rootF v.toNat) l) := Lib.hid (by unfold atP; rw [if_neg hno])
 have e1 : rootX v = ((rootD, rootF v.toNat), 0) := by unfold rootX; rw [if_neg hno]
 have NR : ∀ W, Hid (Calls Tryd.prog 26 #[.int .i64 v] W (RSpP ((rootD, rootF v.toNat), 0) W)) := fun W => Lib.hid ((root_any v W).mono fun r w' h => by have h := h.rng; rw [e1] at h; exact h)
 have HSM : Hid (∀ x, InV v x → x.2.len ≤ 7) := Lib.hid (fun x h => (few_in h1 h3 h).2.2.1)
 have HSZ := Lib.hid hsz
 obtain ⟨An, cn, rfl⟩ := hn.shape
 have H0 : Hid (Below w.heap.size w (w.alloc (.cells #[.string ⟨#[]⟩, .int .i64 0, .int .i64 0, .int .u64 0, .int .u64 0, .slice none 0 0, .bool false, .int .i64 0, .slice none 0 0] 34))) := Lib.hid ((Below.refl _ _).alloc (Nat.le_refl _) _)
 have R0 : Hid (Blk (w.alloc (.cells #[.string ⟨#[]⟩, .int .i64 0, .int .i64 0, .int .u64 0, .int .u64 0, .slice none 0 0, .bool false, .int .i64 0, .slice none 0 0] 34)) w.heap.size 34 #[.string ⟨#[]⟩, .int .i64 0, .int .i64 0, .int .u64 0, .int .u64 0, .slice none 0 0, .bool false, .int .i64 0, .slice none 0 0]) := Lib.hid (Blk.new w _ _)
 have HN := Lib.hid hn
 clear hno e1 hn h1 h3 hsz
 go_enter Tryd.func12, Tryd.ntmps12
 go_wp2_with fail
 refine (NR _).out.mono ?_
 rintro r w1 ⟨cs, rfl, hc, hB⟩
 obtain ⟨B, m, A, c, dn, rfl, -, -, -⟩ := hc.shape
 have H1 := Lib.hid (H0.out.trans (hB.mono H0.out.size))
 have R1 := Lib.hid (R0.out.below hB R0.out.lt)
 have z1 : w.heap.size < w1.heap.size := R1.out.lt
 have SP : Hid (∀ g, Rng (w.alloc (.cells #[.string ⟨#[]⟩, .int .i64 0, .int .i64 0, .int .u64 0, .int .u64 0, .slice none 0 0, .bool false, .int .i64 0, .slice none 0 0] 34)).heap.size w1.heap.size g → w.heap.size < g ∧ g < w1.heap.size) := Lib.hid (fun g hg => ⟨by have := hg.1; simp at this; omega, hg.2⟩)
 have K1 : Hid (SpN w1 (fun g => w.heap.size < g ∧ g < w1.heap.size) (fun g => w.heap.size < g ∧ g < w1.heap.size) [.string (txt rootD.name), .int .i64 (rootD.kind : Int), .int .i64 (rootD.typ : Int), .int .u64 (rootD.low : Int), .int .u64 (rootD.high : Int), .slice B rootD.names.length m, .bool rootD.must, .int .i64 (rootD.most : Int), .slice A (rootF v.toNat).len c] (rootD, rootF v.toNat)) := Lib.hid (hc.mono stay_spc SP.out SP.out)
 clear hB hc SP z1
 go_wp2
 have W2 : Hid (Below w1.heap.size w1 (w1.alloc (.cells #[.string (txt rootD.name), .int .i64 (rootD.kind : Int), .int .i64 (rootD.typ : Int), .int .u64 (rootD.low : Int), .int .u64 (rootD.high : Int), .slice B rootD.names.length m, .bool rootD.must, .int .i64 (rootD.most : Int), .slice A (rootF v.toNat).len c] 34))) := Lib.hid ((Below.refl _ _).alloc (Nat.le_refl _) _)
 have R2 : Hid (Blk (w1.alloc (.cells #[.string (txt rootD.name), .int .i64 (rootD.kind : Int), .int .i64 (rootD.typ : Int), .int .u64 (rootD.low : Int), .int .u64 (rootD.high : Int), .slice B rootD.names.length m, .bool rootD.must, .int .i64 (rootD.most : Int), .slice A (rootF v.toNat).len c] 34)) w.heap.size 34 #[.string ⟨#[]⟩, .int .i64 0, .int .i64 0, .int .u64 0, .int .u64 0, .slice none 0 0, .bool false, .int .i64 0, .slice none 0 0]) := Lib.hid (R1.out.alloc _)
 have X2 : Hid (Blk (w1.alloc (.cells #[.string (txt rootD.name), .int .i64 (rootD.kind : Int), .int .i64 (rootD.typ : Int), .int .u64 (rootD.low : Int), .int .u64 (rootD.high : Int), .slice B rootD.names.length m, .bool rootD.must, .int .i64 (rootD.most : Int), .slice A (rootF v.toNat).len c] 34)) w1.heap.size 34 #[.string (txt rootD.name), .int .i64 (rootD.kind : Int), .int .i64 (rootD.typ : Int), .int .u64 (rootD.low : Int), .int .u64 (rootD.high : Int), .slice B rootD.names.length m, .bool rootD.must, .int .i64 (rootD.most : Int), .slice A (rootF v.toNat).len c]) := Lib.hid (Blk.new w1 _ _)
 have K2 : Hid (SpN (w1.alloc (.cells #[.string (txt rootD.name), .int .i64 (rootD.kind : Int), .int .i64 (rootD.typ : Int), .int .u64 (rootD.low : Int), .int .u64 (rootD.high : Int), .slice B rootD.names.length m, .bool rootD.must, .int .i64 (rootD.most : Int), .slice A (rootF v.toNat).len c] 34)) (fun g => w.heap.size < g ∧ g < w1.heap.size) (fun g => w.heap.size < g ∧ g < w1.heap.size) [.string (txt rootD.name), .int .i64 (rootD.kind : Int), .int .i64 (rootD.typ : Int), .int .u64 (rootD.low : Int), .int .u64 (rootD.high : Int), .slice B rootD.names.length m, .bool rootD.must, .int .i64 (rootD.most : Int), .slice A (rootF v.toNat).len c] (rootD, rootF v.toNat)) := Lib.hid (K1.out.under W2.out (fun g hg => hg.2) (fun g hg => hg.2))
 have Z2 : Hid (w.heap.size < w1.heap.size) := Lib.hid R1.out.lt
 go_loopw [9, 10, 22] (fun _ _ i wr => ∃ (k : Nat) (x : Sp) (cs : List Value), k ≤ l.length ∧ i = .int .i64 (k : Int) ∧ Hid (atP v l = goA x (l.drop k)) ∧ Hid (InV v x) ∧ Blk wr w1.heap.size 34 cs.toArray ∧ Blk wr w.heap.size 34 #[.string ⟨#[]⟩, .int .i64 0, .int .i64 0, .int .u64 0, .int .u64 0, .slice none 0 0, .bool false, .int .i64 0, .slice none 0 0] ∧
  Hid (SpN wr (fun g => w.heap.size < g ∧ g < w1.heap.size) (fun g => w.heap.size < g ∧ g < w1.heap.size) cs x) ∧ Below w.heap.size w wr) (fun _ _ i _ => l.length - (intOf i).toNat)
 case atStart => exact ⟨0, (rootD, rootF v.toNat), _, Nat.zero_le _, rfl, HAT, Lib.hid (.inl rfl), X2.out, R2.out, K2, H1.out.trans (W2.out.mono H1.out.size)⟩
 case round =>
  obtain ⟨k, x, cs, hk, rfl, HD, HI, hX, hR, HK, hB⟩ := hrel
  obtain ⟨B, m, A, c, dn, rfl, -, -, -⟩ := HK.out.shape
  have HB := Lib.hid hB
  have HX := Lib.hid hX
  have HR := Lib.hid hR
  clear hX hR hB
  by_cases hlt : k < l.length
  ·obtain ⟨⟨n, ky⟩, hn⟩ : ∃ s, l[k]? = some s := ⟨_, List.getElem?_eq_getElem hlt⟩
   obtain ⟨d, o, rfl, -, -, -, hcn, hck⟩ := (HN.out.under HB.out (Nat.le_refl _) (Nat.le_refl _)).at hn
   have HKS := Lib.hid (HSZ.out _ (List.mem_of_getElem? hn))
   have HD1 : Hid (atP v l = goA x ((n, ky) :: l.drop (k + 1))) := Lib.hid (by rw [HD.out, drop_step hn])
   have n0 : k < l.length := hlt
   have i1 : (0 : Int) ≤ (k : Int) := by omega
   have i2 : (k : Int) < (l.length : Int) := by omega
   have HAL : Hid (Below wr.heap.size wr (wr.alloc (.cells #[.string (txt n), .string (txt ky)] 46))) := Lib.hid ((Below.refl _ _).alloc (Nat.le_refl _) _)
   have HXA : Hid (Blk (wr.alloc (.cells #[.string (txt n), .string (txt ky)] 46)) w1.heap.size 34 #[.string (txt x.1.name), .int .i64 (x.1.kind : Int), .int .i64 (x.1.typ : Int), .int .u64 (x.1.low : Int), .int .u64 (x.1.high : Int), .slice B x.1.names.length m, .bool x.1.must, .int .i64 (x.1.most : Int), .slice A x.2.len c]) := Lib.hid (HX.out.alloc _)
   have HRA : Hid (Blk (wr.alloc (.cells #[.string (txt n), .string (txt ky)] 46)) w.heap.size 34 #[.string ⟨#[]⟩, .int .i64 0, .int .i64 0, .int .u64 0, .int .u64 0, .slice none 0 0, .bool false, .int .i64 0, .slice none 0 0]) := Lib.hid (HR.out.alloc _)
   have HBXA : Hid (Blk (wr.alloc (.cells #[.string (txt n), .string (txt ky)] 46)) wr.heap.size 46 #[.string (txt n), .string (txt ky)]) := Lib.hid (Blk.new wr _ _)
   have HKA : Hid (SpN (wr.alloc (.cells #[.string (txt n), .string (txt ky)] 46)) (fun g => w.heap.size < g ∧ g < w1.heap.size) (fun g => w.heap.size < g ∧ g < w1.heap.size) [.string (txt x.1.name), .int .i64 (x.1.kind : Int), .int .i64 (x.1.typ : Int), .int .u64 (x.1.low : Int), .int .u64 (x.1.high : Int), .slice B x.1.names.length m, .bool x.1.must, .int .i64 (x.1.most : Int), .slice A x.2.len c] x) := Lib.hid (HK.out.under HAL.out (fun g hg => Nat.lt_trans hg.2 HX.out.lt) (fun g hg => Nat.lt_trans hg.2 HX.out.lt))
   have HBA : Hid (Below w.heap.size w (wr.alloc (.cells #[.string (txt n), .string (txt ky)] 46))) := Lib.hid (HB.out.trans (HAL.out.mono HB.out.size))
   have HC := Lib.hid (findC w n _ _ _ x (wr.alloc (.cells #[.string (txt n), .string (txt ky)] 46)) HKA.out (fun g hg => Nat.lt_trans hg.2 HXA.out.lt) (Nat.le_trans (HSM.out _ HI.out) (by omega)) HBA.out)
   have ZB : Hid (w1.heap.size < wr.heap.size) := Lib.hid HX.out.lt
   have q0 : (wr.alloc (.cells #[.string (txt n), .string (txt ky)] 46)).cell? ⟨w1.heap.size, 0, none⟩ = _ := (HXA.out.cell 0).trans rfl
   have q1 : (wr.alloc (.cells #[.string (txt n), .string (txt ky)] 46)).cell? ⟨w1.heap.size, 1, none⟩ = _ := (HXA.out.cell 1).trans rfl
   have q2 : (wr.alloc (.cells #[.string (txt n), .string (txt ky)] 46)).cell? ⟨w1.heap.size, 2, none⟩ = _ := (HXA.out.cell 2).trans rfl
   have q3 : (wr.alloc (.cells #[.string (txt n), .string (txt ky)] 46)).cell? ⟨w1.heap.size, 3, none⟩ = _ := (HXA.out.cell 3).trans rfl
   have q4 : (wr.alloc (.cells #[.string (txt n), .string (txt ky)] 46)).cell? ⟨w1.heap.size, 4, none⟩ = _ := (HXA.out.cell 4).trans rfl
   have q5 : (wr.alloc (.cells #[.string (txt n), .string (txt ky)] 46)).cell? ⟨w1.heap.size, 5, none⟩ = _ := (HXA.out.cell 5).trans rfl
   have q6 : (wr.alloc (.cells #[.string (txt n), .string (txt ky)] 46)).cell? ⟨w1.heap.size, 6, none⟩ = _ := (HXA.out.cell 6).trans rfl
   have q7 : (wr.alloc (.cells #[.string (txt n), .string (txt ky)] 46)).cell? ⟨w1.heap.size, 7, none⟩ = _ := (HXA.out.cell 7).trans rfl
   have q8 : (wr.alloc (.cells #[.string (txt n), .string (txt ky)] 46)).cell? ⟨w1.heap.size, 8, none⟩ = _ := (HXA.out.cell 8).trans rfl
   have b0 : (wr.alloc (.cells #[.string (txt n), .string (txt ky)] 46)).cell? ⟨wr.heap.size, 0, none⟩ = some (.string (txt n)) := (HBXA.out.cell 0).trans rfl
   have b1 : (wr.alloc (.cells #[.string (txt n), .string (txt ky)] 46)).cell? ⟨wr.heap.size, 1, none⟩ = some (.string (txt ky)) := (HBXA.out.cell 1).trans rfl
   clear hn hlt
   go_wp2_with fail
   refine HC.out.mono ?_
   rintro r w3 ⟨rfl, hb3⟩
   have HB3 := Lib.hid (HBA.out.trans (hb3.mono HBA.out.size))
   have HX3 := Lib.hid (HXA.out.below hb3 HXA.out.lt)
   have HR3 := Lib.hid (HRA.out.below hb3 HRA.out.lt)
   have HBX3 := Lib.hid (HBXA.out.below hb3 HBXA.out.lt)
   have HK3 := Lib.hid (HKA.out.under hb3 (fun g hg => Nat.lt_trans hg.2 HXA.out.lt) (fun g hg => Nat.lt_trans hg.2 HXA.out.lt))
   clear hb3 b0 b1 hcn hck HC
   clear q0 q1 q2 q3 q4 q5 q6 q7 q8
   cases hf : findX n x.2 with
   | none =>
    have e : findI n x.2 = -1 := by unfold findI; rw [hf]
    have HV : Hid (atP v l = ((zeroD, .nil), 22)) := Lib.hid (goA_err HD1.out (goS_none hf))
    have RE : Hid (Blk (set9 w3 w.heap.size (.string ⟨#[]⟩) (.int .i64 0) (.int .i64 0) (.int .u64 0) (.int .u64 0) (.slice none 0 0) (.bool false) (.int .i64 0) (.slice none 0 0)) w.heap.size 34 #[.string ⟨#[]⟩, .int .i64 0, .int .i64 0, .int .u64 0, .int .u64 0, .slice none 0 0, .bool false, .int .i64 0, .slice none 0 0]) := Lib.hid (HR3.out.set9 _ _ _ _ _ _ _ _ _)
    have HE : Hid (Below w.heap.size w (set9 w3 w.heap.size (.string ⟨#[]⟩) (.int .i64 0) (.int .i64 0) (.int .u64 0) (.int .u64 0) (.slice none 0 0) (.bool false) (.int .i64 0) (.slice none 0 0))) := Lib.hid (HB3.out.trans (set9_below (Nat.le_refl _)))
    rw [e]
    have f0 : w3.frozen? ⟨w.heap.size, 0, none⟩ = false := HR3.out.frozen 0
    have q0 : w3.cell? ⟨w.heap.size, 0, none⟩ = _ := (HR3.out.cell 0).trans rfl
    have f1 : w3.frozen? ⟨w.heap.size, 1, none⟩ = false := HR3.out.frozen 1
    have q1 : w3.cell? ⟨w.heap.size, 1, none⟩ = _ := (HR3.out.cell 1).trans rfl
    have f2 : w3.frozen? ⟨w.heap.size, 2, none⟩ = false := HR3.out.frozen 2
    have q2 : w3.cell? ⟨w.heap.size, 2, none⟩ = _ := (HR3.out.cell 2).trans rfl
    have f3 : w3.frozen? ⟨w.heap.size, 3, none⟩ = false := HR3.out.frozen 3
    have q3 : w3.cell? ⟨w.heap.size, 3, none⟩ = _ := (HR3.out.cell 3).trans rfl
    have f4 : w3.frozen? ⟨w.heap.size, 4, none⟩ = false := HR3.out.frozen 4
    have q4 : w3.cell? ⟨w.heap.size, 4, none⟩ = _ := (HR3.out.cell 4).trans rfl
    have f5 : w3.frozen? ⟨w.heap.size, 5, none⟩ = false := HR3.out.frozen 5
    have q5 : w3.cell? ⟨w.heap.size, 5, none⟩ = _ := (HR3.out.cell 5).trans rfl
    have f6 : w3.frozen? ⟨w.heap.size, 6, none⟩ = false := HR3.out.frozen 6
    have q6 : w3.cell? ⟨w.heap.size, 6, none⟩ = _ := (HR3.out.cell 6).trans rfl
    have f7 : w3.frozen? ⟨w.heap.size, 7, none⟩ = false := HR3.out.frozen 7
    have q7 : w3.cell? ⟨w.heap.size, 7, none⟩ = _ := (HR3.out.cell 7).trans rfl
    have f8 : w3.frozen? ⟨w.heap.size, 8, none⟩ = false := HR3.out.frozen 8
    have q8 : w3.cell? ⟨w.heap.size, 8, none⟩ = _ := (HR3.out.cell 8).trans rfl
    clear hf e
    go_wp2
    refine bodyPost_ret (res_cell_tmp rfl _ _ w.heap.size 34 _ (0, 0) _ rfl RE.out Tryd.underlying34 rfl (by kernel_rfl)) rfl ?_
    exact ⟨spC zeroD (.slice none 0 0) (.slice none 0 0), by rw [HV.out]; rfl, by rw [HV.out]; exact leaf_n rfl, HE.out⟩
   | some j =>
    have e : findI n x.2 = (j : Int) := by unfold findI; rw [hf]
    obtain ⟨⟨a, q⟩, hg, -, -⟩ := find_some hf
    have HGB := Lib.hid (goS_bad (s := (n, ky)) hf hg)
    have HGO := Lib.hid (goS_ok (s := (n, ky)) hf hg)
    have HI2 := Lib.hid (HI.out.get hg)
    obtain ⟨B9, m9, A9, c9, dn9, e9, -, -, hkv⟩ := HK3.out.shape
    injection e9 with e9 e9'
    obtain ⟨b', o', c', cs', ee, -, hSb, hN, hcl⟩ := (show FrV SpcD 9 8 w3 (fun g => w.heap.size < g ∧ g < w1.heap.size) (fun g => w.heap.size < g ∧ g < w1.heap.size) (.slice A x.2.len c) x.2 from by simp only [List.cons.injEq, and_true, true_and] at e9'; simp_all).at hg
    injection ee with e1 e2 e3
    subst e1 e3
    have hlj := Fr.get_lt hg
    have hsh := SpN.shape (x := (a, q)) hN
    have HKN := Lib.hid hN
    obtain ⟨B', m', A', c'', d', rfl, -, -, -⟩ := hsh
    have j1 : (0 : Int) ≤ (j : Int) := by omega
    have j2 : (j : Int) < (x.2.len : Int) := by omega
    have j3 : ¬ (j : Int) < 0 := by omega
    have u0 : w3.cell? ⟨b', o' + j * 9, none⟩ = _ := hcl 0 _ rfl
    have u1 := hcl 1 _ rfl
    have u2 := hcl 2 _ rfl
    have u3 := hcl 3 _ rfl
    have u4 := hcl 4 _ rfl
    have u5 := hcl 5 _ rfl
    have u6 := hcl 6 _ rfl
    have u7 := hcl 7 _ rfl
    have u8 := hcl 8 _ rfl
    have HX4 : Veil15 (Blk (set9 w3 w1.heap.size (.string (txt a.name)) (.int .i64 (a.kind : Int)) (.int .i64 (a.typ : Int)) (.int .u64 (a.low : Int)) (.int .u64 (a.high : Int)) (.slice B' a.names.length m') (.bool a.must) (.int .i64 (a.most : Int)) (.slice A' q.len c'')) w1.heap.size 34 #[.string (txt a.name), .int .i64 (a.kind : Int), .int .i64 (a.typ : Int), .int .u64 (a.low : Int), .int .u64 (a.high : Int), .slice B' a.names.length m', .bool a.must, .int .i64 (a.most : Int), .slice A' q.len c'']) := .mk (HX3.out.set9 _ _ _ _ _ _ _ _ _)
    have HR4 : Veil15 (Blk (set9 w3 w1.heap.size (.string (txt a.name)) (.int .i64 (a.kind : Int)) (.int .i64 (a.typ : Int)) (.int .u64 (a.low : Int)) (.int .u64 (a.high : Int)) (.slice B' a.names.length m') (.bool a.must) (.int .i64 (a.most : Int)) (.slice A' q.len c'')) w.heap.size 34 #[.string ⟨#[]⟩, .int .i64 0, .int .i64 0, .int .u64 0, .int .u64 0, .slice none 0 0, .bool false, .int .i64 0, .slice none 0 0]) := .mk ((set9_other (Nat.ne_of_lt Z2.out)).trans HR3.out)
    have HBX4 : Veil15 (Blk (set9 w3 w1.heap.size (.string (txt a.name)) (.int .i64 (a.kind : Int)) (.int .i64 (a.typ : Int)) (.int .u64 (a.low : Int)) (.int .u64 (a.high : Int)) (.slice B' a.names.length m') (.bool a.must) (.int .i64 (a.most : Int)) (.slice A' q.len c'')) wr.heap.size 46 #[.string (txt n), .string (txt ky)]) := .mk ((set9_other (Nat.ne_of_gt ZB.out)).trans HBX3.out)
    have HK4 : Veil15 (SpN (set9 w3 w1.heap.size (.string (txt a.name)) (.int .i64 (a.kind : Int)) (.int .i64 (a.typ : Int)) (.int .u64 (a.low : Int)) (.int .u64 (a.high : Int)) (.slice B' a.names.length m') (.bool a.must) (.int .i64 (a.most : Int)) (.slice A' q.len c'')) (fun g => w.heap.size < g ∧ g < w1.heap.size) (fun g => w.heap.size < g ∧ g < w1.heap.size) [.string (txt a.name), .int .i64 (a.kind : Int), .int .i64 (a.typ : Int), .int .u64 (a.low : Int), .int .u64 (a.high : Int), .slice B' a.names.length m', .bool a.must, .int .i64 (a.most : Int), .slice A' q.len c''] (a, q)) := .mk (SpN.apart HKN.out (fun g hg => set9_other (Nat.ne_of_lt hg.2)) (fun g hg => set9_other (Nat.ne_of_lt hg.2)))
    have HB4 : Veil15 (Below w.heap.size w (set9 w3 w1.heap.size (.string (txt a.name)) (.int .i64 (a.kind : Int)) (.int .i64 (a.typ : Int)) (.int .u64 (a.low : Int)) (.int .u64 (a.high : Int)) (.slice B' a.names.length m') (.bool a.must) (.int .i64 (a.most : Int)) (.slice A' q.len c''))) := .mk (HB3.out.trans (set9_below (Nat.le_of_lt Z2.out)))
    rw [e]
    have f0 : w3.frozen? ⟨w1.heap.size, 0, none⟩ = false := HX3.out.frozen 0
    have q0 : w3.cell? ⟨w1.heap.size, 0, none⟩ = some (.string (txt x.1.name)) := (HX3.out.cell 0).trans rfl
    have f1 : w3.frozen? ⟨w1.heap.size, 1, none⟩ = false := HX3.out.frozen 1
    have q1 : w3.cell? ⟨w1.heap.size, 1, none⟩ = some (.int .i64 (x.1.kind : Int)) := (HX3.out.cell 1).trans rfl
    have f2 : w3.frozen? ⟨w1.heap.size, 2, none⟩ = false := HX3.out.frozen 2
    have q2 : w3.cell? ⟨w1.heap.size, 2, none⟩ = some (.int .i64 (x.1.typ : Int)) := (HX3.out.cell 2).trans rfl
    have f3 : w3.frozen? ⟨w1.heap.size, 3, none⟩ = false := HX3.out.frozen 3
    have q3 : w3.cell? ⟨w1.heap.size, 3, none⟩ = some (.int .u64 (x.1.low : Int)) := (HX3.out.cell 3).trans rfl
    have f4 : w3.frozen? ⟨w1.heap.size, 4, none⟩ = false := HX3.out.frozen 4
    have q4 : w3.cell? ⟨w1.heap.size, 4, none⟩ = some (.int .u64 (x.1.high : Int)) := (HX3.out.cell 4).trans rfl
    have f5 : w3.frozen? ⟨w1.heap.size, 5, none⟩ = false := HX3.out.frozen 5
    have q5 : w3.cell? ⟨w1.heap.size, 5, none⟩ = some (.slice B x.1.names.length m) := (HX3.out.cell 5).trans rfl
    have f6 : w3.frozen? ⟨w1.heap.size, 6, none⟩ = false := HX3.out.frozen 6
    have q6 : w3.cell? ⟨w1.heap.size, 6, none⟩ = some (.bool x.1.must) := (HX3.out.cell 6).trans rfl
    have f7 : w3.frozen? ⟨w1.heap.size, 7, none⟩ = false := HX3.out.frozen 7
    have q7 : w3.cell? ⟨w1.heap.size, 7, none⟩ = some (.int .i64 (x.1.most : Int)) := (HX3.out.cell 7).trans rfl
    have f8 : w3.frozen? ⟨w1.heap.size, 8, none⟩ = false := HX3.out.frozen 8
    have q8 : w3.cell? ⟨w1.heap.size, 8, none⟩ = some (.slice (some ⟨b', o', none⟩) x.2.len c) := (HX3.out.cell 8).trans rfl
    clear hf e hg hN hcl hSb e2 hlj e9 e9' hkv HAL HRA HBXA HBA HXA HKA HX HK HX3 HK3 HR3 HBX3 HB3 HKN HR HB
    go_upto_region 10 with (fail)
    go_cut [] (fun wx => Hid (Below w.heap.size w wx ∧ Blk wx w1.heap.size 34 #[.string (txt a.name), .int .i64 (a.kind : Int), .int .i64 (a.typ : Int), .int .u64 (a.low : Int), .int .u64 (a.high : Int), .slice B' a.names.length m', .bool a.must, .int .i64 (a.most : Int), .slice A' q.len c''] ∧ Blk wx w.heap.size 34 #[.string ⟨#[]⟩, .int .i64 0, .int .i64 0, .int .u64 0, .int .u64 0, .slice none 0 0, .bool false, .int .i64 0, .slice none 0 0] ∧ SpN wx (fun g => w.heap.size < g ∧ g < w1.heap.size) (fun g => w.heap.size < g ∧ g < w1.heap.size) [.string (txt a.name), .int .i64 (a.kind : Int), .int .i64 (a.typ : Int), .int .u64 (a.low : Int), .int .u64 (a.high : Int), .slice B' a.names.length m', .bool a.must, .int .i64 (a.most : Int), .slice A' q.len c''] (a, q) ∧ Blk wx wr.heap.size 46 #[.string (txt n), .string (txt ky)]))
    case first =>
     go_wp2_with fail
     go_meet
     exact Lib.hid ⟨HB4.out, HX4.out, HR4.out, HK4.out, HBX4.out⟩
    case rest =>
     have HQ4 := hcut
     clear hcut
     obtain ⟨wq, hwq⟩ : ∃ wq, wq = wc := ⟨_, rfl⟩
     subst hwq
     have ck : wq.cell? ⟨wr.heap.size, 1, none⟩ = some (.string (txt ky)) := (HQ4.out.2.2.2.2.cell 1).trans rfl
     have y0 : wq.cell? ⟨w1.heap.size, 0, none⟩ = _ := (HQ4.out.2.1.cell 0).trans rfl
     have y1 : wq.cell? ⟨w1.heap.size, 1, none⟩ = _ := (HQ4.out.2.1.cell 1).trans rfl
     have y2 : wq.cell? ⟨w1.heap.size, 2, none⟩ = _ := (HQ4.out.2.1.cell 2).trans rfl
     have y3 : wq.cell? ⟨w1.heap.size, 3, none⟩ = _ := (HQ4.out.2.1.cell 3).trans rfl
     have y4 : wq.cell? ⟨w1.heap.size, 4, none⟩ = _ := (HQ4.out.2.1.cell 4).trans rfl
     have y5 : wq.cell? ⟨w1.heap.size, 5, none⟩ = _ := (HQ4.out.2.1.cell 5).trans rfl
     have y6 : wq.cell? ⟨w1.heap.size, 6, none⟩ = _ := (HQ4.out.2.1.cell 6).trans rfl
     have y7 : wq.cell? ⟨w1.heap.size, 7, none⟩ = _ := (HQ4.out.2.1.cell 7).trans rfl
     have y8 : wq.cell? ⟨w1.heap.size, 8, none⟩ = _ := (HQ4.out.2.1.cell 8).trans rfl
     have c1 := Lib.hid (fits15_any (a, q) B' A' m' c'' ky HKS.out wq)
     cases hi : fitX a.kind ky with
     | true =>
      have HGA := Lib.hid (goA_go HD1.out (HGO.out (fit_good hi)))
      have HI0 := Lib.hid hi
      clear hi
      go_wp2_with fail
      refine c1.out.mono ?_
      rintro r w5 ⟨rfl, hb5⟩
      rw [show fitX (a, q).1.kind ky = true from HI0.out]
      have HB5 := Lib.hid (HQ4.out.1.trans (hb5.mono HQ4.out.1.size))
      have HX5 := Lib.hid (HQ4.out.2.1.below hb5 HQ4.out.2.1.lt)
      have HR5 := Lib.hid (HQ4.out.2.2.1.below hb5 HQ4.out.2.2.1.lt)
      have HK5 := Lib.hid (HQ4.out.2.2.2.1.under hb5 (fun g hg => Nat.lt_trans hg.2 HQ4.out.2.1.lt) (fun g hg => Nat.lt_trans hg.2 HQ4.out.2.1.lt))
      clear c1 hb5 ck
      clear y0 y1 y2 y3 y4 y5 y6 y7 y8
      go_wp2
      go_roundw
      case rel => exact ⟨k + 1, (a, q), _, by omega, by go_num, HGA, HI2, HX5.out, HR5.out, HK5, HB5.out⟩
      case measure => simp [intOf]; omega
     | false =>
      have HV : Hid (atP v l = ((zeroD, .nil), 23)) := Lib.hid (goA_err HD1.out (HGB.out (fit_bad hi)))
      have HI0 := Lib.hid hi
      clear hi
      go_wp2_with fail
      refine c1.out.mono ?_
      rintro r w5 ⟨rfl, hb5⟩
      rw [show fitX (a, q).1.kind ky = false from HI0.out]
      have HB5 := Lib.hid (HQ4.out.1.trans (hb5.mono HQ4.out.1.size))
      have HR5 := Lib.hid (HQ4.out.2.2.1.below hb5 HQ4.out.2.2.1.lt)
      have RE : Hid (Blk (set9 w5 w.heap.size (.string ⟨#[]⟩) (.int .i64 0) (.int .i64 0) (.int .u64 0) (.int .u64 0) (.slice none 0 0) (.bool false) (.int .i64 0) (.slice none 0 0)) w.heap.size 34 #[.string ⟨#[]⟩, .int .i64 0, .int .i64 0, .int .u64 0, .int .u64 0, .slice none 0 0, .bool false, .int .i64 0, .slice none 0 0]) := Lib.hid (HR5.out.set9 _ _ _ _ _ _ _ _ _)
      have HE : Hid (Below w.heap.size w (set9 w5 w.heap.size (.string ⟨#[]⟩) (.int .i64 0) (.int .i64 0) (.int .u64 0) (.int .u64 0) (.slice none 0 0) (.bool false) (.int .i64 0) (.slice none 0 0))) := Lib.hid (HB5.out.trans (set9_below (Nat.le_refl _)))
      clear c1 hb5 ck
      clear y0 y1 y2 y3 y4 y5 y6 y7 y8
      have f0 : w5.frozen? ⟨w.heap.size, 0, none⟩ = false := HR5.out.frozen 0
      have q0 : w5.cell? ⟨w.heap.size, 0, none⟩ = _ := (HR5.out.cell 0).trans rfl
      have f1 : w5.frozen? ⟨w.heap.size, 1, none⟩ = false := HR5.out.frozen 1
      have q1 : w5.cell? ⟨w.heap.size, 1, none⟩ = _ := (HR5.out.cell 1).trans rfl
      have f2 : w5.frozen? ⟨w.heap.size, 2, none⟩ = false := HR5.out.frozen 2
      have q2 : w5.cell? ⟨w.heap.size, 2, none⟩ = _ := (HR5.out.cell 2).trans rfl
      have f3 : w5.frozen? ⟨w.heap.size, 3, none⟩ = false := HR5.out.frozen 3
      have q3 : w5.cell? ⟨w.heap.size, 3, none⟩ = _ := (HR5.out.cell 3).trans rfl
      have f4 : w5.frozen? ⟨w.heap.size, 4, none⟩ = false := HR5.out.frozen 4
      have q4 : w5.cell? ⟨w.heap.size, 4, none⟩ = _ := (HR5.out.cell 4).trans rfl
      have f5 : w5.frozen? ⟨w.heap.size, 5, none⟩ = false := HR5.out.frozen 5
      have q5 : w5.cell? ⟨w.heap.size, 5, none⟩ = _ := (HR5.out.cell 5).trans rfl
      have f6 : w5.frozen? ⟨w.heap.size, 6, none⟩ = false := HR5.out.frozen 6
      have q6 : w5.cell? ⟨w.heap.size, 6, none⟩ = _ := (HR5.out.cell 6).trans rfl
      have f7 : w5.frozen? ⟨w.heap.size, 7, none⟩ = false := HR5.out.frozen 7
      have q7 : w5.cell? ⟨w.heap.size, 7, none⟩ = _ := (HR5.out.cell 7).trans rfl
      have f8 : w5.frozen? ⟨w.heap.size, 8, none⟩ = false := HR5.out.frozen 8
      have q8 : w5.cell? ⟨w.heap.size, 8, none⟩ = _ := (HR5.out.cell 8).trans rfl
      go_wp2
      refine bodyPost_ret (res_cell_tmp rfl _ _ w.heap.size 34 _ (0, 0) _ rfl RE.out Tryd.underlying34 rfl (by kernel_rfl)) rfl ?_
      exact ⟨spC zeroD (.slice none 0 0) (.slice none 0 0), by rw [HV.out]; rfl, by rw [HV.out]; exact leaf_n rfl, HE.out⟩
  ·obtain rfl : k = l.length := by omega
   have HV : Hid (atP v l = (x, 0)) := Lib.hid (by have h := HD.out; rw [List.drop_length] at h; rw [h]; rfl)
   have i2 : ¬ (l.length : Int) < (l.length : Int) := by omega
   have RE : Hid (Blk (set9 wr w.heap.size (.string (txt x.1.name)) (.int .i64 (x.1.kind : Int)) (.int .i64 (x.1.typ : Int)) (.int .u64 (x.1.low : Int)) (.int .u64 (x.1.high : Int)) (.slice B x.1.names.length m) (.bool x.1.must) (.int .i64 (x.1.most : Int)) (.slice A x.2.len c)) w.heap.size 34 #[.string (txt x.1.name), .int .i64 (x.1.kind : Int), .int .i64 (x.1.typ : Int), .int .u64 (x.1.low : Int), .int .u64 (x.1.high : Int), .slice B x.1.names.length m, .bool x.1.must, .int .i64 (x.1.most : Int), .slice A x.2.len c]) := Lib.hid (HR.out.set9 _ _ _ _ _ _ _ _ _)
   have HE : Hid (Below w.heap.size w (set9 wr w.heap.size (.string (txt x.1.name)) (.int .i64 (x.1.kind : Int)) (.int .i64 (x.1.typ : Int)) (.int .u64 (x.1.low : Int)) (.int .u64 (x.1.high : Int)) (.slice B x.1.names.length m) (.bool x.1.must) (.int .i64 (x.1.most : Int)) (.slice A x.2.len c))) := Lib.hid (HB.out.trans (set9_below (Nat.le_refl _)))
   have KE : Hid (SpN (set9 wr w.heap.size (.string (txt x.1.name)) (.int .i64 (x.1.kind : Int)) (.int .i64 (x.1.typ : Int)) (.int .u64 (x.1.low : Int)) (.int .u64 (x.1.high : Int)) (.slice B x.1.names.length m) (.bool x.1.must) (.int .i64 (x.1.most : Int)) (.slice A x.2.len c)) (Rng w.heap.size (set9 wr w.heap.size (.string (txt x.1.name)) (.int .i64 (x.1.kind : Int)) (.int .i64 (x.1.typ : Int)) (.int .u64 (x.1.low : Int)) (.int .u64 (x.1.high : Int)) (.slice B x.1.names.length m) (.bool x.1.must) (.int .i64 (x.1.most : Int)) (.slice A x.2.len c)).heap.size) (Rng w.heap.size (set9 wr w.heap.size (.string (txt x.1.name)) (.int .i64 (x.1.kind : Int)) (.int .i64 (x.1.typ : Int)) (.int .u64 (x.1.low : Int)) (.int .u64 (x.1.high : Int)) (.slice B x.1.names.length m) (.bool x.1.must) (.int .i64 (x.1.most : Int)) (.slice A x.2.len c)).heap.size) [.string (txt x.1.name), .int .i64 (x.1.kind : Int), .int .i64 (x.1.typ : Int), .int .u64 (x.1.low : Int), .int .u64 (x.1.high : Int), .slice B x.1.names.length m, .bool x.1.must, .int .i64 (x.1.most : Int), .slice A x.2.len c] x) := Lib.hid ((HK.out.apart (fun g hg => set9_other (Nat.ne_of_gt hg.1)) (fun g hg => set9_other (Nat.ne_of_gt hg.1))).mono stay_spc (fun g hg => ⟨Nat.le_of_lt hg.1, by rw [set9_size]; exact Nat.lt_trans hg.2 HX.out.lt⟩) (fun g hg => ⟨Nat.le_of_lt hg.1, by rw [set9_size]; exact Nat.lt_trans hg.2 HX.out.lt⟩))
   clear hlt
   have q0 : wr.cell? ⟨w1.heap.size, 0, none⟩ = _ := (HX.out.cell 0).trans rfl
   have q1 : wr.cell? ⟨w1.heap.size, 1, none⟩ = _ := (HX.out.cell 1).trans rfl
   have q2 : wr.cell? ⟨w1.heap.size, 2, none⟩ = _ := (HX.out.cell 2).trans rfl
   have q3 : wr.cell? ⟨w1.heap.size, 3, none⟩ = _ := (HX.out.cell 3).trans rfl
   have q4 : wr.cell? ⟨w1.heap.size, 4, none⟩ = _ := (HX.out.cell 4).trans rfl
   have q5 : wr.cell? ⟨w1.heap.size, 5, none⟩ = _ := (HX.out.cell 5).trans rfl
   have q6 : wr.cell? ⟨w1.heap.size, 6, none⟩ = _ := (HX.out.cell 6).trans rfl
   have q7 : wr.cell? ⟨w1.heap.size, 7, none⟩ = _ := (HX.out.cell 7).trans rfl
   have q8 : wr.cell? ⟨w1.heap.size, 8, none⟩ = _ := (HX.out.cell 8).trans rfl
   have f0 : wr.frozen? ⟨w.heap.size, 0, none⟩ = false := HR.out.frozen 0
   have r0 : wr.cell? ⟨w.heap.size, 0, none⟩ = _ := (HR.out.cell 0).trans rfl
   have f1 : wr.frozen? ⟨w.heap.size, 1, none⟩ = false := HR.out.frozen 1
   have r1 : wr.cell? ⟨w.heap.size, 1, none⟩ = _ := (HR.out.cell 1).trans rfl
   have f2 : wr.frozen? ⟨w.heap.size, 2, none⟩ = false := HR.out.frozen 2
   have r2 : wr.cell? ⟨w.heap.size, 2, none⟩ = _ := (HR.out.cell 2).trans rfl
   have f3 : wr.frozen? ⟨w.heap.size, 3, none⟩ = false := HR.out.frozen 3
   have r3 : wr.cell? ⟨w.heap.size, 3, none⟩ = _ := (HR.out.cell 3).trans rfl
   have f4 : wr.frozen? ⟨w.heap.size, 4, none⟩ = false := HR.out.frozen 4
   have r4 : wr.cell? ⟨w.heap.size, 4, none⟩ = _ := (HR.out.cell 4).trans rfl
   have f5 : wr.frozen? ⟨w.heap.size, 5, none⟩ = false := HR.out.frozen 5
   have r5 : wr.cell? ⟨w.heap.size, 5, none⟩ = _ := (HR.out.cell 5).trans rfl
   have f6 : wr.frozen? ⟨w.heap.size, 6, none⟩ = false := HR.out.frozen 6
   have r6 : wr.cell? ⟨w.heap.size, 6, none⟩ = _ := (HR.out.cell 6).trans rfl
   have f7 : wr.frozen? ⟨w.heap.size, 7, none⟩ = false := HR.out.frozen 7
   have r7 : wr.cell? ⟨w.heap.size, 7, none⟩ = _ := (HR.out.cell 7).trans rfl
   have f8 : wr.frozen? ⟨w.heap.size, 8, none⟩ = false := HR.out.frozen 8
   have r8 : wr.cell? ⟨w.heap.size, 8, none⟩ = _ := (HR.out.cell 8).trans rfl
   go_wp2
   refine bodyPost_ret (res_cell_tmp rfl _ _ w.heap.size 34 _ (0, 0) _ rfl RE.out Tryd.underlying34 rfl (by kernel_rfl)) rfl ?_
   exact ⟨_, by rw [HV.out]; rfl, by rw [HV.out]; exact KE.out, HE.out⟩
theorem at15_any (v : Int) (l : List Stp) (nv : Value) (w : World) (hn : WayV w.heap.size w nv l) (hl : l.length ≤ 1000000) (hsz : ∀ s ∈ l, s.2.length ≤ 9223372036854775807) : Calls Tryd.prog 12 #[.int .i64 v, nv] w (LieSp (atP v l) w) := by
 by_cases h : v < 1 ∨ 3 < v
 ·exact (at15_no v l nv w h hn).mono fun _ _ h => h.lie
 ·exact (at15_in v l nv w (by omega) (by omega) hn hl hsz).mono fun _ _ h => h.lie
end Go.Proofs.YtikmilcdibldhaaDoor
