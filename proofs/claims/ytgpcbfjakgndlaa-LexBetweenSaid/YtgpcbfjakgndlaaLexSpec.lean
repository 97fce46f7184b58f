/-
  What package lex is to answer (a proposition, to be proved of the code that landed), and the law's own plain (package tollbarlaw05).
-/
import Derived.Test.YtgpcbfjakgndlaaLexRefE
import Derived.Test.YtgpcbfjakgndlaaLexRefF
import Derived.Test.YtgpcbfjakgndlaaDrawn
namespace Go.Proofs.Ytgpcbfjakgndlaa
open Go.RowKit
set_option linter.unusedSimpArgs false

def LexAllP (s : List UInt8) (w : World) (r : Ending) (w' : World) : Prop :=
  ∃ v d, r = .returned (.tuple #[v, .int .i64 (allX s).2.1, .agg #[.int .i64 ((allX s).2.2.1 : Int), .int .i64 ((allX s).2.2.2 : Int)]]) ∧ Toks w' d v (allX s).1 ∧ Below w.heap.size w w'
def LexAllC : Prop := ∀ (s : List UInt8) (w : World), s.length ≤ 20000 → Calls Try.prog 9 #[.string (txt s)] w (LexAllP s w)
def LexPlainC : Prop := ∀ (s : List UInt8) (w : World), s.length ≤ 20000 → Calls Try.prog 14 #[.string (txt s)] w (fun r w' => r = .returned (.bool (plainX s)) ∧ Below w.heap.size w w')
def LexQuoteC : Prop := ∀ (s : List UInt8) (w : World), s.length ≤ 20000 → Calls Try.prog 13 #[.string (txt s)] w (fun r w' => r = .returned (.string (txt (quoteX s))) ∧ Below w.heap.size w w')
/-- PACKAGE LEX ANSWERS AS IT IS TO, in every world. -/
structure LexC : Prop where
  all : LexAllC
  plain : LexPlainC
  quote : LexQuoteC

def PlainTP (l : List Tok) (w : World) (r : Ending) (w' : World) : Prop := ∃ v d, r = .returned v ∧ Toks w' d v l ∧ Below w.heap.size w w'
set_option maxRecDepth 100000 in
set_option maxHeartbeats 1000000 in
theorem plainT_any (l : List Tok) (w : World) (va : Value) (da : Nat) (hva : Toks w da va l) (hl : l.length ≤ 1000000) :
    Calls Try.prog 12 #[va] w (PlainTP l w) := by
  obtain ⟨A, c, rfl⟩ := RowK.shape hva
  go_enter Try.func12, Try.ntmps12
  go_wp2
  go_loopw [3, 4] (fun y i wr => ∃ (j : Nat), j ≤ l.length ∧ i = .int .i64 (j : Int) ∧ OwnK 49 4 wr w.heap.size y j ((l.take j).flatMap tkC) ∧ Below w.heap.size w wr) (fun _ i _ => l.length - (intOf i).toNat)
  case atStart => exact ⟨0, Nat.zero_le _, rfl, OwnK.nil _ _ _ _, Below.refl _ _⟩
  case round =>
    obtain ⟨j, hj, rfl, hown, hB⟩ := hrel
    by_cases hlt : j < l.length
    · obtain ⟨x, hx⟩ : ∃ x, l[j]? = some x := ⟨_, List.getElem?_eq_getElem hlt⟩
      have hBd := hB.drew
      have hlow0 : da < w.heap.size := by
        obtain ⟨_, _, _, _, h, _⟩ := Toks.at hva hx
        exact h
      obtain ⟨-, -, o, rfl, hSa, c0, c1, c2, c3⟩ := Toks.at (RowK.below hva hBd) hx
      have i1 : (0 : Int) ≤ (j : Int) := by omega
      have i2 : (j : Int) < (l.length : Int) := by omega
      have hownd : OwnK 49 4 wr.drew w.heap.size u3 j ((l.take j).flatMap tkC) := hown.below (Below.refl _ _).drew
      have hownA := hownd.below ((Below.refl _ wr.drew).alloc (Nat.le_refl _) (.cells #[.int .i64 (x.k : Int), .string (txt x.t), .int .i64 (x.p.1 : Int), .int .i64 (x.p.2 : Int)] 49))
      have hbA : Below wr.drew.heap.size wr.drew (wr.drew.alloc (.cells #[.int .i64 (x.k : Int), .string (txt x.t), .int .i64 (x.p.1 : Int), .int .i64 (x.p.2 : Int)] 49)) := (Below.refl _ _).alloc (Nat.le_refl _) _
      have hNA : w.heap.size ≤ (wr.drew.alloc (.cells #[.int .i64 (x.k : Int), .string (txt x.t), .int .i64 (x.p.1 : Int), .int .i64 (x.p.2 : Int)] 49)).heap.size := by have := hBd.size; have := hbA.size; omega
      have hblk := Blk.new wr.drew 49 #[.int .i64 (x.k : Int), .string (txt x.t), .int .i64 (x.p.1 : Int), .int .i64 (x.p.2 : Int)]
      have HTK : Hid ((l.take (j + 1)).flatMap tkC = (l.take j).flatMap tkC ++ tkC x) := Lib.hid (by rw [List.take_add_one, hx]; simp)
      have hlow : da < w.heap.size := hlow0
      clear hx hown
      go_wp2_with fail
      refine wp_region_noPanic ?_
      refine wp_region_held_drew (S := fun _ => True) (by kernel_rfl) trivial (fun hS => ?_)
      refine wpAnyH_take (i := 0) (oi := ?o1_0_1) (v := ?v1_0_1) ?i1_0_1 (by kernel_rfl) (by kernel_rfl) (by kernel_rfl) (fun _ _ _ h => h) (Or.inl ⟨?g1_0_1, ?y1_0_1⟩) hS ?_
      case i1_0_1 => simp only [List.getElem?_toArray, List.getElem?_cons_succ, List.getElem?_cons_zero]; rfl
      case g1_0_1 => rfl
      case y1_0_1 => (intro w hSw; (go_simp <;> with_reducible rfl))
      (try simp only [Act.put, List.setIfInBounds_toArray, List.set_cons_zero, List.set_cons_succ])
      refine wpAnyH_take (i := 1) (oi := ?o1_1_2) (v := ?v1_1_2) ?i1_1_2 (by kernel_rfl) (by kernel_rfl) (by kernel_rfl) (fun _ _ _ h => h) (Or.inl ⟨?g1_1_2, ?y1_1_2⟩) hS ?_
      case i1_1_2 => simp only [List.getElem?_toArray, List.getElem?_cons_succ, List.getElem?_cons_zero]; rfl
      case g1_1_2 => rfl
      case y1_1_2 => (intro w hSw; (go_simp <;> with_reducible rfl))
      (try simp only [Act.put, List.setIfInBounds_toArray, List.set_cons_zero, List.set_cons_succ])
      refine wpAnyH_take (i := 2) (oi := ?o1_2_3) (v := ?v1_2_3) ?i1_2_3 (by kernel_rfl) (by kernel_rfl) (by kernel_rfl) (fun _ _ _ h => h) (Or.inl ⟨?g1_2_3, ?y1_2_3⟩) hS ?_
      case i1_2_3 => simp only [List.getElem?_toArray, List.getElem?_cons_succ, List.getElem?_cons_zero]; rfl
      case g1_2_3 => rfl
      case y1_2_3 => (intro w hSw; (go_simp <;> with_reducible rfl))
      (try simp only [Act.put, List.setIfInBounds_toArray, List.set_cons_zero, List.set_cons_succ])
      refine wpAnyH_take (i := 3) (oi := ?o1_3_4) (v := ?v1_3_4) ?i1_3_4 (by kernel_rfl) (by kernel_rfl) (by kernel_rfl) (fun _ _ _ h => h) (Or.inl ⟨?g1_3_4, ?y1_3_4⟩) hS ?_
      case i1_3_4 => simp only [List.getElem?_toArray, List.getElem?_cons_succ, List.getElem?_cons_zero]; rfl
      case g1_3_4 => rfl
      case y1_3_4 => (intro w hSw; (go_simp <;> with_reducible rfl))
      (try simp only [Act.put, List.setIfInBounds_toArray, List.set_cons_zero, List.set_cons_succ])
      refine wpAnyH_take (i := 4) (oi := ?o1_4_5) (v := ?v1_4_5) ?i1_4_5 (by kernel_rfl) (by kernel_rfl) (by kernel_rfl) (fun _ _ _ h => h) (Or.inl ⟨?g1_4_5, ?y1_4_5⟩) hS ?_
      case i1_4_5 => simp only [List.getElem?_toArray, List.getElem?_cons_succ, List.getElem?_cons_zero]; rfl
      case g1_4_5 => rfl
      case y1_4_5 => (intro w hSw; (go_simp <;> with_reducible rfl))
      (try simp only [Act.put, List.setIfInBounds_toArray, List.set_cons_zero, List.set_cons_succ])
      refine held_more (S' := fun w' => w'.cell? ⟨da, o + j * 4, none⟩ = some (.int .i64 (x.k : Int)) ∧ w'.cell? ⟨da, o + j * 4 + 1, none⟩ = some (.string (txt x.t)) ∧ w'.cell? ⟨da, o + j * 4 + 2, none⟩ = some (.int .i64 (x.p.1 : Int)) ∧ w'.cell? ⟨da, o + j * 4 + 3, none⟩ = some (.int .i64 (x.p.2 : Int))) (fun _ _ => trivial) _ _ _ _ ?_
      replace hS := And.intro c0 (And.intro c1 (And.intro c2 c3))
      refine wpAnyH_take (i := 5) (oi := ?o1_5_6) (v := ?v1_5_6) ?i1_5_6 (by kernel_rfl) (by kernel_rfl) (by kernel_rfl) (fun _ _ _ h => h) (Or.inl ⟨?g1_5_6, ?y1_5_6⟩) hS ?_
      case i1_5_6 => simp only [List.getElem?_toArray, List.getElem?_cons_succ, List.getElem?_cons_zero]; rfl
      case g1_5_6 => rfl
      case y1_5_6 => (intro w hSw; have hc := hSw.1; (go_simp <;> with_reducible rfl))
      (try simp only [Act.put, List.setIfInBounds_toArray, List.set_cons_zero, List.set_cons_succ])
      refine wpAnyH_take (i := 6) (oi := ?o1_6_7) (v := ?v1_6_7) ?i1_6_7 (by kernel_rfl) (by kernel_rfl) (by kernel_rfl) (fun _ _ _ h => h) (Or.inl ⟨?g1_6_7, ?y1_6_7⟩) hS ?_
      case i1_6_7 => simp only [List.getElem?_toArray, List.getElem?_cons_succ, List.getElem?_cons_zero]; rfl
      case g1_6_7 => rfl
      case y1_6_7 => (intro w hSw; (go_simp <;> with_reducible rfl))
      (try simp only [Act.put, List.setIfInBounds_toArray, List.set_cons_zero, List.set_cons_succ])
      refine wpAnyH_take (i := 7) (oi := ?o1_7_8) (v := ?v1_7_8) ?i1_7_8 (by kernel_rfl) (by kernel_rfl) (by kernel_rfl) (fun _ _ _ h => h) (Or.inl ⟨?g1_7_8, ?y1_7_8⟩) hS ?_
      case i1_7_8 => simp only [List.getElem?_toArray, List.getElem?_cons_succ, List.getElem?_cons_zero]; rfl
      case g1_7_8 => rfl
      case y1_7_8 => (intro w hSw; (go_simp <;> with_reducible rfl))
      (try simp only [Act.put, List.setIfInBounds_toArray, List.set_cons_zero, List.set_cons_succ])
      refine wpAnyH_take (i := 8) (oi := ?o1_8_9) (v := ?v1_8_9) ?i1_8_9 (by kernel_rfl) (by kernel_rfl) (by kernel_rfl) (fun _ _ _ h => h) (Or.inl ⟨?g1_8_9, ?y1_8_9⟩) hS ?_
      case i1_8_9 => simp only [List.getElem?_toArray, List.getElem?_cons_succ, List.getElem?_cons_zero]; rfl
      case g1_8_9 => rfl
      case y1_8_9 => (intro w hSw; (go_simp <;> with_reducible rfl))
      (try simp only [Act.put, List.setIfInBounds_toArray, List.set_cons_zero, List.set_cons_succ])
      refine wpAnyH_take (i := 9) (oi := ?o1_9_10) (v := ?v1_9_10) ?i1_9_10 (by kernel_rfl) (by kernel_rfl) (by kernel_rfl) (fun _ _ _ h => h) (Or.inl ⟨?g1_9_10, ?y1_9_10⟩) hS ?_
      case i1_9_10 => simp only [List.getElem?_toArray, List.getElem?_cons_succ, List.getElem?_cons_zero]; rfl
      case g1_9_10 => rfl
      case y1_9_10 => (intro w hSw; (go_simp <;> with_reducible rfl))
      (try simp only [Act.put, List.setIfInBounds_toArray, List.set_cons_zero, List.set_cons_succ])
      refine wpAnyH_take (i := 10) (oi := ?o1_10_11) (v := ?v1_10_11) ?i1_10_11 (by kernel_rfl) (by kernel_rfl) (by kernel_rfl) (fun _ _ _ h => h) (Or.inl ⟨?g1_10_11, ?y1_10_11⟩) hS ?_
      case i1_10_11 => simp only [List.getElem?_toArray, List.getElem?_cons_succ, List.getElem?_cons_zero]; rfl
      case g1_10_11 => rfl
      case y1_10_11 => (intro w hSw; have hc := hSw.2.1; (go_simp <;> with_reducible rfl))
      (try simp only [Act.put, List.setIfInBounds_toArray, List.set_cons_zero, List.set_cons_succ])
      refine wpAnyH_take (i := 11) (oi := ?o1_11_12) (v := ?v1_11_12) ?i1_11_12 (by kernel_rfl) (by kernel_rfl) (by kernel_rfl) (fun _ _ _ h => h) (Or.inl ⟨?g1_11_12, ?y1_11_12⟩) hS ?_
      case i1_11_12 => simp only [List.getElem?_toArray, List.getElem?_cons_succ, List.getElem?_cons_zero]; rfl
      case g1_11_12 => rfl
      case y1_11_12 => (intro w hSw; (go_simp <;> with_reducible rfl))
      (try simp only [Act.put, List.setIfInBounds_toArray, List.set_cons_zero, List.set_cons_succ])
      refine wpAnyH_take (i := 12) (oi := ?o1_12_13) (v := ?v1_12_13) ?i1_12_13 (by kernel_rfl) (by kernel_rfl) (by kernel_rfl) (fun _ _ _ h => h) (Or.inl ⟨?g1_12_13, ?y1_12_13⟩) hS ?_
      case i1_12_13 => simp only [List.getElem?_toArray, List.getElem?_cons_succ, List.getElem?_cons_zero]; rfl
      case g1_12_13 => rfl
      case y1_12_13 => (intro w hSw; (go_simp <;> with_reducible rfl))
      (try simp only [Act.put, List.setIfInBounds_toArray, List.set_cons_zero, List.set_cons_succ])
      refine wpAnyH_take (i := 13) (oi := ?o1_13_14) (v := ?v1_13_14) ?i1_13_14 (by kernel_rfl) (by kernel_rfl) (by kernel_rfl) (fun _ _ _ h => h) (Or.inl ⟨?g1_13_14, ?y1_13_14⟩) hS ?_
      case i1_13_14 => simp only [List.getElem?_toArray, List.getElem?_cons_succ, List.getElem?_cons_zero]; rfl
      case g1_13_14 => rfl
      case y1_13_14 => (intro w hSw; (go_simp <;> with_reducible rfl))
      (try simp only [Act.put, List.setIfInBounds_toArray, List.set_cons_zero, List.set_cons_succ])
      refine wpAnyH_take (i := 14) (oi := ?o1_14_15) (v := ?v1_14_15) ?i1_14_15 (by kernel_rfl) (by kernel_rfl) (by kernel_rfl) (fun _ _ _ h => h) (Or.inl ⟨?g1_14_15, ?y1_14_15⟩) hS ?_
      case i1_14_15 => simp only [List.getElem?_toArray, List.getElem?_cons_succ, List.getElem?_cons_zero]; rfl
      case g1_14_15 => rfl
      case y1_14_15 => (intro w hSw; (go_simp <;> with_reducible rfl))
      (try simp only [Act.put, List.setIfInBounds_toArray, List.set_cons_zero, List.set_cons_succ])
      refine wpAnyH_take (i := 15) (oi := ?o1_15_16) (v := ?v1_15_16) ?i1_15_16 (by kernel_rfl) (by kernel_rfl) (by kernel_rfl) (fun _ _ _ h => h) (Or.inl ⟨?g1_15_16, ?y1_15_16⟩) hS ?_
      case i1_15_16 => simp only [List.getElem?_toArray, List.getElem?_cons_succ, List.getElem?_cons_zero]; rfl
      case g1_15_16 => rfl
      case y1_15_16 => (intro w hSw; have hc := hSw.2.2.1; have hc' := hSw.2.2.2; (go_simp <;> with_reducible rfl))
      (try simp only [Act.put, List.setIfInBounds_toArray, List.set_cons_zero, List.set_cons_succ])
      refine wpAnyH_take (i := 16) (oi := ?o1_16_17) (v := ?v1_16_17) ?i1_16_17 (by kernel_rfl) (by kernel_rfl) (by kernel_rfl) (fun _ _ _ h => h) (Or.inl ⟨?g1_16_17, ?y1_16_17⟩) hS ?_
      case i1_16_17 => simp only [List.getElem?_toArray, List.getElem?_cons_succ, List.getElem?_cons_zero]; rfl
      case g1_16_17 => rfl
      case y1_16_17 => (intro w hSw; (go_simp <;> with_reducible rfl))
      (try simp only [Act.put, List.setIfInBounds_toArray, List.set_cons_zero, List.set_cons_succ])
      refine wpAnyH_ready (rs := [17]) (by kernel_rfl) (by simp) ?_
      refine (AllReadyH.cons (o := ?o1_18_17) ?i1_18_17 (fun K hK => ?st1_18_17) AllReadyH.nil)
      case i1_18_17 => simp only [List.getElem?_toArray, List.getElem?_cons_succ, List.getElem?_cons_zero]; rfl
      rw [if_pos (by rfl)]
      go_simp
      refine hK.out _ _ ?s1_18_17 (fun hS => ?_)
      case s1_18_17 => (exact ⟨(hbA.cell (p := ⟨da, o + j * 4, none⟩) hSa).trans hS.1, (hbA.cell (p := ⟨da, o + j * 4 + 1, none⟩) hSa).trans hS.2.1, (hbA.cell (p := ⟨da, o + j * 4 + 2, none⟩) hSa).trans hS.2.2.1, (hbA.cell (p := ⟨da, o + j * 4 + 3, none⟩) hSa).trans hS.2.2.2⟩)
      clear hK K
      (try simp only [Act.put, List.setIfInBounds_toArray, List.set_cons_zero, List.set_cons_succ])
      refine wpAnyH_ready (rs := [18]) (by kernel_rfl) (by simp) ?_
      refine (AllReadyH.cons (o := ?o1_19_18) ?i1_19_18 (fun K hK => ?st1_19_18) AllReadyH.nil)
      case i1_19_18 => simp only [List.getElem?_toArray, List.getElem?_cons_succ, List.getElem?_cons_zero]; rfl
      rw [if_pos (by rfl)]
      refine wp_append_k Try.underlying29 Try.infoT zeroT (by decide) (.tmp 11) (.tmp 28) (by rfl) (by rfl) w.heap.size _ j _ (by rfl) hownA wr.drew.heap.size (by rfl) [.int .i64 (x.k : Int), .string (txt x.t), .int .i64 (x.p.1 : Int), .int .i64 (x.p.2 : Int)] hblk rfl (tkC_one x) ?_ ?_ hNA ?_
      · omega
      · omega
      intro v20 w20 hap
      have hb20 := hap.below hownA hNA
      refine hK.out _ _ ?s1_19_18 (fun hS => ?_)
      case s1_19_18 => (exact ⟨(hb20.cell (p := ⟨da, o + j * 4, none⟩) (hlow)).trans hS.1, (hb20.cell (p := ⟨da, o + j * 4 + 1, none⟩) (hlow)).trans hS.2.1, (hb20.cell (p := ⟨da, o + j * 4 + 2, none⟩) (hlow)).trans hS.2.2.1, (hb20.cell (p := ⟨da, o + j * 4 + 3, none⟩) (hlow)).trans hS.2.2.2⟩)
      clear hK K
      (try simp only [Act.put, List.setIfInBounds_toArray, List.set_cons_zero, List.set_cons_succ])
      refine wpAnyH_take (i := 19) (oi := ?o1_19_20) (v := ?v1_19_20) ?i1_19_20 (by kernel_rfl) (by kernel_rfl) (by kernel_rfl) (fun _ _ _ h => h) (Or.inl ⟨?g1_19_20, ?y1_19_20⟩) hS ?_
      case i1_19_20 => simp only [List.getElem?_toArray, List.getElem?_cons_succ, List.getElem?_cons_zero]; rfl
      case g1_19_20 => rfl
      case y1_19_20 => (intro w hSw; (go_simp <;> with_reducible rfl))
      (try simp only [Act.put, List.setIfInBounds_toArray, List.set_cons_zero, List.set_cons_succ])
      refine wpAnyH_done (by kernel_rfl) ?_ _
      refine NoPanic.normal ?_
      have hown20 : OwnK 49 4 w20 w.heap.size v20 (j + 1) ((l.take (j + 1)).flatMap tkC) := by rw [HTK.out]; exact hap.1
      have hB20 := (hBd.trans (hbA.mono hBd.size)).trans hb20
      clear hap hb20 hownA hbA hownd hBd hS c0 c1 c2 c3 hblk
      go_wp2
      go_roundw
      case rel => exact ⟨j + 1, by omega, by go_num, hown20, hB20⟩
      case measure => simp [intOf]; omega
    · obtain rfl : j = l.length := by omega
      rw [List.take_length] at hown
      obtain ⟨d, hr, -⟩ := hown.row
      have i2 : ¬ (l.length : Int) < (l.length : Int) := by omega
      go_wp2
      go_ret
      exact ⟨_, d, rfl, hr, hB⟩

end Go.Proofs.Ytgpcbfjakgndlaa
