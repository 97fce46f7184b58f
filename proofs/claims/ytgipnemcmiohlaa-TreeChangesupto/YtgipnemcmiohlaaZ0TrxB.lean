/- What the laws of package tree want of TrxB. -/
import Derived.Test.YtgipnemcmiohlaaZ0TrxA
import Derived.Shelf.Abstract
import Derived.Lib.SliceRun
import Derived.Lib.AppendZerosOnto
import Derived.Lib.Overlaps
import Derived.Laws.CopyRow
import Derived.Laws.CopyOwn
import Derived.Laws.Externs
import Derived.Lib.AppendZeros
namespace Go.Proofs.Ytgipnemcmiohlaa
open Go.RowKit
set_option linter.unusedSimpArgs false
set_option linter.unusedVariables false
/-- The first of a row of which p holds. -/
def ixP (p : NdD → Bool) : NdF → Option Nat
  | .nil => none
  | .cons a _ r => if p a = true then some 0 else (ixP p r).map (· + 1)
def ixI (p : NdD → Bool) (f : NdF) : Int := match ixP p f with
  | none => -1
  | some i => (i : Int)
theorem ix_lt {p : NdD → Bool} : ∀ {f : NdF} {i : Nat}, (∀ j, j < i → ∀ y, f.get? j = some y → p y.1 = false) → (∃ y, f.get? i = some y ∧ p y.1 = true) → ixP p f = some i := by
  intro f
  induction f with
  | nil => intro i _ ⟨y, h, _⟩; cases h
  | cons a k r _ ih =>
    intro i h1 ⟨y, h2, h3⟩
    cases i with
    | zero =>
      injection h2 with h2
      subst h2
      simp only [ixP]
      rw [if_pos h3]
    | succ i =>
      have h4 := h1 0 (by omega) (a, k) rfl
      have h5 := ih (i := i) (fun j hj y hy => h1 (j + 1) (by omega) y hy) ⟨y, h2, h3⟩
      simp only [ixP]
      rw [if_neg (by rw [h4]; simp), h5]
      rfl
theorem ix_out {p : NdD → Bool} : ∀ {f : NdF}, (∀ j, j < f.len → ∀ y, f.get? j = some y → p y.1 = false) → ixP p f = none := by
  intro f
  induction f with
  | nil => intro _; rfl
  | cons a k r _ ih =>
    intro h
    have h4 := h 0 (by simp [Fr.len]) (a, k) rfl
    simp only [ixP]
    rw [if_neg (by rw [h4]; simp), ih (fun j hj y hy => h (j + 1) (by simp only [Fr.len]; omega) y hy)]
    rfl
theorem ix_find (s : Stp) : ∀ (f : NdF), ixP (fun a => decide (stp a = s)) f = findN s f := by
  intro f
  induction f with
  | nil => rfl
  | cons a k r _ ih =>
    simp only [ixP, findN, decide_eq_true_eq]
    rw [ih]
theorem ixI_find (s : Stp) (f : NdF) : ixI (fun a => decide (stp a = s)) f = findIx s f := by
  unfold ixI findIx
  rw [ix_find]
  cases findN s f <;> rfl
set_option maxRecDepth 100000 in
set_option maxHeartbeats 2000000 in
theorem indexf_any (p : NdD → Bool) (fn : Nat) (cap : Array Value) (f : NdF) (A : Option Addr) (c : Nat) (w : World) (hk : RowT w.heap.size w (.slice A f.len c) f) (hl : f.len ≤ 1000000)
    (hq : ∀ (a : NdD) (v : Value) (W : World), v.oneCell' = true → Below w.heap.size w W → Calls Try.prog fn (#[.agg #[.string (txt a.name), .string (txt a.key), .int .i64 a.kind, .int .u64 (a.num : Int), .string (txt a.text), v]] ++ cap) W (Ans9 (.bool (p a)) W))
    (he : ∀ args W, (callFunc fn args).run Try.prog W = .ok (.enter fn args) W) :
    Calls Try.prog 46 #[.slice A f.len c, .func (.func fn) #[] cap] w (Ans9 (.int .i64 (ixI p f)) w) := by
  have HK : Hid (RowT w.heap.size w (.slice A f.len c) f) := Lib.hid hk
  have HLL : Hid (f.len ≤ 1000000) := Lib.hid hl
  have HQ := Lib.hid hq
  clear hk hl hq
  go_enter Try.func46, Try.ntmps46
  go_wp2
  go_loopw [8] (fun i wr => ∃ k : Nat, k ≤ f.len ∧ i = .int .i64 (k : Int) ∧ Hid (∀ j, j < k → ∀ y, f.get? j = some y → p y.1 = false) ∧ Below w.heap.size w wr) (fun i _ => f.len - (intOf i).toNat)
  case atStart => exact ⟨0, Nat.zero_le _, rfl, Lib.hid (fun j h => by omega), Below.refl _ _⟩
  case round =>
    obtain ⟨k, hk, rfl, HL, hB⟩ := hrel
    have HBr := Lib.hid hB
    by_cases hlt : k < f.len
    · obtain ⟨a1, q, hg⟩ := Fr.get_some hlt
      obtain ⟨b, o, A', c', rfl, -, -, hbl, -, hcl⟩ := HK.out.at hg
      have i1 : (0 : Int) ≤ (k : Int) := by omega
      have i2 : (k : Int) < (f.len : Int) := by omega
      have i3 : (f.len : Int) ≤ 1000000 := by have := HLL.out; omega
      have hcell : ∀ i u, (ndC a1 (.slice A' q.len c'))[i]? = some u → wr.cell? ⟨b, o + k * 6 + i, none⟩ = some u := fun i u hu => (hB.cell (p := ⟨b, o + k * 6 + i, none⟩) hbl).trans (hcl i u hu)
      have s0 : (wr).cell? ⟨b, o + k * 6, none⟩ = _ := hcell 0 _ rfl
      have s1 : (wr).cell? ⟨b, o + k * 6 + 1, none⟩ = _ := hcell 1 _ rfl
      have s2 : (wr).cell? ⟨b, o + k * 6 + 2, none⟩ = _ := hcell 2 _ rfl
      have s3 : (wr).cell? ⟨b, o + k * 6 + 3, none⟩ = _ := hcell 3 _ rfl
      have s4 : (wr).cell? ⟨b, o + k * 6 + 4, none⟩ = _ := hcell 4 _ rfl
      have s5 : (wr).cell? ⟨b, o + k * 6 + 5, none⟩ = _ := hcell 5 _ rfl
      obtain ⟨rb, hrb⟩ : ∃ z, z = p a1 := ⟨_, rfl⟩
      have HC : Hid (Calls Try.prog fn (#[.agg #[.string (txt a1.name), .string (txt a1.key), .int .i64 a1.kind, .int .u64 (a1.num : Int), .string (txt a1.text), .slice A' q.len c']] ++ cap) wr (Ans9 (.bool rb) wr)) := Lib.hid (by rw [hrb]; exact HQ.out a1 _ wr rfl hB)
      have HG := Lib.hid hg
      have HRB := Lib.hid hrb
      clear hcl hg hcell hB hbl hrb
      cases rb with
      | true =>
        have HF : Hid (ixI p f = (k : Int)) := Lib.hid (by unfold ixI; rw [ix_lt HL.out ⟨_, HG.out, HRB.out.symm⟩])
        go_wp2_with fail
        refine HC.out.mono ?_
        rintro r w2 ⟨rfl, hb⟩
        have HB2 := Lib.hid (HBr.out.trans (hb.mono HBr.out.size))
        clear hb s0 s1 s2 s3 s4 s5
        go_wp2
        go_ret
        exact ⟨by rw [HF.out]; rfl, HB2.out⟩
      | false =>
        have HL2 : Hid (∀ j, j < k + 1 → ∀ y, f.get? j = some y → p y.1 = false) := Lib.hid (fun j hj y hy => by
          by_cases e : j = k
          · subst e; rw [HG.out] at hy; injection hy with hy; subst hy; exact HRB.out.symm
          · exact HL.out j (by omega) y hy)
        go_wp2_with fail
        refine HC.out.mono ?_
        rintro r w2 ⟨rfl, hb⟩
        have HB2 := Lib.hid (HBr.out.trans (hb.mono HBr.out.size))
        clear hb s0 s1 s2 s3 s4 s5
        go_wp2
        go_roundw
        case rel => exact ⟨k + 1, by omega, by go_num, HL2, HB2.out⟩
        case measure => simp [intOf]; omega
    · have HF : Hid (ixI p f = -1) := Lib.hid (by unfold ixI; rw [ix_out (fun j hj y hy => HL.out j (by omega) y hy)])
      have i2 : ¬ (k : Int) < (f.len : Int) := by omega
      clear hB
      go_wp2
      go_ret
      exact ⟨by rw [HF.out]; rfl, HBr.out⟩
set_option maxRecDepth 100000 in
set_option maxHeartbeats 1000000 in
theorem find1_any (a : NdD) (v : Value) (s : Stp) (g : Nat) (w : World) (hg : Blk w g 43 #[.string (txt s.1), .string (txt s.2)]) :
    Calls Try.prog 50 #[.agg #[.string (txt a.name), .string (txt a.key), .int .i64 a.kind, .int .u64 (a.num : Int), .string (txt a.text), v], .pointer (some ⟨g, 0, none⟩)] w (Ans9 (.bool (decide (stp a = s))) w) := by
  have HQ : Hid ((Blk (w.alloc (.cells #[.string (txt a.name), .string (txt a.key), .int .i64 a.kind, .int .u64 (a.num : Int), .string (txt a.text), v] 27)).drew w.heap.size 27 #[.string (txt a.name), .string (txt a.key), .int .i64 a.kind, .int .u64 (a.num : Int), .string (txt a.text), v] ∧ Blk (w.alloc (.cells #[.string (txt a.name), .string (txt a.key), .int .i64 a.kind, .int .u64 (a.num : Int), .string (txt a.text), v] 27)).drew g 43 #[.string (txt s.1), .string (txt s.2)]) ∧ Below w.heap.size w (w.alloc (.cells #[.string (txt a.name), .string (txt a.key), .int .i64 a.kind, .int .u64 (a.num : Int), .string (txt a.text), v] 27)).drew) := Lib.hid ⟨⟨Blk.new w 27 #[.string (txt a.name), .string (txt a.key), .int .i64 a.kind, .int .u64 (a.num : Int), .string (txt a.text), v], hg.alloc _⟩, ((Below.refl _ _).alloc (Nat.le_refl _) _).drew⟩
  clear hg
  cases hs : decide (stp a = s) with
  | true =>
    have e : stp a = s := of_decide_eq_true hs
    have e1 : (txt a.name).toList = (txt s.1).toList := by rw [← e]; rfl
    have e2 : (txt a.key).toList = (txt s.2).toList := by rw [← e]; rfl
    have E1 := Lib.hid e1
    have E2 := Lib.hid e2
    clear e e1 e2 hs
    go_enter Try.func50, Try.ntmps50
    go_wp2_with fail
    refine wp_region_noPanic ?_
    refine wp_region_held_drew (S := fun _ => True) (by kernel_rfl) trivial (fun hS => ?_)
    refine held_more (S' := fun w' => Blk w' w.heap.size 27 #[.string (txt a.name), .string (txt a.key), .int .i64 a.kind, .int .u64 (a.num : Int), .string (txt a.text), v] ∧ Blk w' g 43 #[.string (txt s.1), .string (txt s.2)]) (fun _ _ => trivial) _ _ _ _ ?_
    replace hS := HQ.out.1
    refine wpAnyH_take (i := 0) (oi := ?o1_0_1) (v := ?v1_0_1) ?i1_0_1 (by kernel_rfl) (by kernel_rfl) (by kernel_rfl) (fun _ _ _ h => h) (Or.inl ⟨?g1_0_1, ?y1_0_1⟩) hS ?_
    case i1_0_1 => simp only [List.getElem?_toArray, List.getElem?_cons_succ, List.getElem?_cons_zero]; rfl
    case g1_0_1 => rfl
    case y1_0_1 => (intro w hSw; have q0 := (hSw.1.cell 0).trans rfl; have q1 := (hSw.1.cell 1).trans rfl; have q2 := (hSw.1.cell 2).trans rfl; have q3 := (hSw.1.cell 3).trans rfl; have q4 := (hSw.1.cell 4).trans rfl; have q5 := (hSw.1.cell 5).trans rfl; (go_simp <;> with_reducible rfl))
    (try simp only [Act.put, List.setIfInBounds_toArray, List.set_cons_zero, List.set_cons_succ])
    refine wpAnyH_take (i := 2) (oi := ?o1_2_2) (v := ?v1_2_2) ?i1_2_2 (by kernel_rfl) (by kernel_rfl) (by kernel_rfl) (fun _ _ _ h => h) (Or.inl ⟨?g1_2_2, ?y1_2_2⟩) hS ?_
    case i1_2_2 => simp only [List.getElem?_toArray, List.getElem?_cons_succ, List.getElem?_cons_zero]; rfl
    case g1_2_2 => rfl
    case y1_2_2 => (intro w hSw; have q0 := (hSw.2.cell 0).trans rfl; have q1 := (hSw.2.cell 1).trans rfl; (go_simp <;> with_reducible rfl))
    (try simp only [Act.put, List.setIfInBounds_toArray, List.set_cons_zero, List.set_cons_succ])
    refine wpAnyH_ready (rs := [1]) (by kernel_rfl) (by simp) ?_
    refine (AllReadyH.cons (o := ?or1_3_1) ?ir1_3_1 (fun K hK => ?str1_3_1) AllReadyH.nil)
    case ir1_3_1 => simp only [List.getElem?_toArray, List.getElem?_cons_succ, List.getElem?_cons_zero]; rfl
    rw [if_pos (by rfl)]
    go_simp
    refine (stepof_any a v _).mono ?_
    rintro r w3 ⟨rfl, hb3⟩
    have HS3 := Lib.hid (And.intro (HQ.out.1.1.below hb3 HQ.out.1.1.lt) (HQ.out.1.2.below hb3 HQ.out.1.2.lt))
    have HB3 := Lib.hid (HQ.out.2.trans (hb3.mono HQ.out.2.size))
    clear hb3
    go_wp2_with fail
    refine hK.out _ _ ?sr1_3_1 (fun hS => ?_)
    case sr1_3_1 => (exact HS3.out)
    clear hK K
    (try simp only [Act.put, List.setIfInBounds_toArray, List.set_cons_zero, List.set_cons_succ])
    refine wpAnyH_take (i := 3) (oi := ?o1_3_4) (v := ?v1_3_4) ?i1_3_4 (by kernel_rfl) (by kernel_rfl) (by kernel_rfl) (fun _ _ _ h => h) (Or.inl ⟨?g1_3_4, ?y1_3_4⟩) hS ?_
    case i1_3_4 => simp only [List.getElem?_toArray, List.getElem?_cons_succ, List.getElem?_cons_zero]; rfl
    case g1_3_4 => rfl
    case y1_3_4 => (intro w hSw; have e1 := E1.out; have e2 := E2.out; (go_simp <;> with_reducible rfl))
    (try simp only [Act.put, List.setIfInBounds_toArray, List.set_cons_zero, List.set_cons_succ])
    refine wpAnyH_take (i := 4) (oi := ?o1_4_5) (v := ?v1_4_5) ?i1_4_5 (by kernel_rfl) (by kernel_rfl) (by kernel_rfl) (fun _ _ _ h => h) (Or.inl ⟨?g1_4_5, ?y1_4_5⟩) hS ?_
    case i1_4_5 => simp only [List.getElem?_toArray, List.getElem?_cons_succ, List.getElem?_cons_zero]; rfl
    case g1_4_5 => rfl
    case y1_4_5 => (intro w hSw; (go_simp <;> with_reducible rfl))
    (try simp only [Act.put, List.setIfInBounds_toArray, List.set_cons_zero, List.set_cons_succ])
    refine wpAnyH_done (by kernel_rfl) ?_ _
    refine NoPanic.normal ?_
    clear hS
    go_wp2
    go_ret
    exact ⟨rfl, HB3.out⟩
  | false =>
    have hne : stp a ≠ s := of_decide_eq_false hs
    have HE : Hid (∀ (α : Type) (R1 R0 : α), (if (txt a.name).toList = (txt s.1).toList then if (txt a.key).toList = (txt s.2).toList then R1 else R0 else R0) = R0) := Lib.hid (by
      intro α R1 R0
      simp only [txt_toList]
      split
      · split
        · exact absurd (Prod.ext ‹_› ‹_›) hne
        · rfl
      · rfl)
    clear hne hs
    go_enter Try.func50, Try.ntmps50
    go_wp2_with fail
    refine wp_region_noPanic ?_
    refine wp_region_held_drew (S := fun _ => True) (by kernel_rfl) trivial (fun hS => ?_)
    refine held_more (S' := fun w' => Blk w' w.heap.size 27 #[.string (txt a.name), .string (txt a.key), .int .i64 a.kind, .int .u64 (a.num : Int), .string (txt a.text), v] ∧ Blk w' g 43 #[.string (txt s.1), .string (txt s.2)]) (fun _ _ => trivial) _ _ _ _ ?_
    replace hS := HQ.out.1
    refine wpAnyH_take (i := 0) (oi := ?o2_0_1) (v := ?v2_0_1) ?i2_0_1 (by kernel_rfl) (by kernel_rfl) (by kernel_rfl) (fun _ _ _ h => h) (Or.inl ⟨?g2_0_1, ?y2_0_1⟩) hS ?_
    case i2_0_1 => simp only [List.getElem?_toArray, List.getElem?_cons_succ, List.getElem?_cons_zero]; rfl
    case g2_0_1 => rfl
    case y2_0_1 => (intro w hSw; have q0 := (hSw.1.cell 0).trans rfl; have q1 := (hSw.1.cell 1).trans rfl; have q2 := (hSw.1.cell 2).trans rfl; have q3 := (hSw.1.cell 3).trans rfl; have q4 := (hSw.1.cell 4).trans rfl; have q5 := (hSw.1.cell 5).trans rfl; (go_simp <;> with_reducible rfl))
    (try simp only [Act.put, List.setIfInBounds_toArray, List.set_cons_zero, List.set_cons_succ])
    refine wpAnyH_take (i := 2) (oi := ?o2_2_2) (v := ?v2_2_2) ?i2_2_2 (by kernel_rfl) (by kernel_rfl) (by kernel_rfl) (fun _ _ _ h => h) (Or.inl ⟨?g2_2_2, ?y2_2_2⟩) hS ?_
    case i2_2_2 => simp only [List.getElem?_toArray, List.getElem?_cons_succ, List.getElem?_cons_zero]; rfl
    case g2_2_2 => rfl
    case y2_2_2 => (intro w hSw; have q0 := (hSw.2.cell 0).trans rfl; have q1 := (hSw.2.cell 1).trans rfl; (go_simp <;> with_reducible rfl))
    (try simp only [Act.put, List.setIfInBounds_toArray, List.set_cons_zero, List.set_cons_succ])
    refine wpAnyH_ready (rs := [1]) (by kernel_rfl) (by simp) ?_
    refine (AllReadyH.cons (o := ?or2_3_1) ?ir2_3_1 (fun K hK => ?str2_3_1) AllReadyH.nil)
    case ir2_3_1 => simp only [List.getElem?_toArray, List.getElem?_cons_succ, List.getElem?_cons_zero]; rfl
    rw [if_pos (by rfl)]
    go_simp
    refine (stepof_any a v _).mono ?_
    rintro r w3 ⟨rfl, hb3⟩
    have HS3 := Lib.hid (And.intro (HQ.out.1.1.below hb3 HQ.out.1.1.lt) (HQ.out.1.2.below hb3 HQ.out.1.2.lt))
    have HB3 := Lib.hid (HQ.out.2.trans (hb3.mono HQ.out.2.size))
    clear hb3
    go_wp2_with fail
    refine hK.out _ _ ?sr2_3_1 (fun hS => ?_)
    case sr2_3_1 => (exact HS3.out)
    clear hK K
    (try simp only [Act.put, List.setIfInBounds_toArray, List.set_cons_zero, List.set_cons_succ])
    refine wpAnyH_take (i := 3) (oi := ?o2_3_4) (v := ?v2_3_4) ?i2_3_4 (by kernel_rfl) (by kernel_rfl) (by kernel_rfl) (fun _ _ _ h => h) (Or.inl ⟨?g2_3_4, ?y2_3_4⟩) hS ?_
    case i2_3_4 => simp only [List.getElem?_toArray, List.getElem?_cons_succ, List.getElem?_cons_zero]; rfl
    case g2_3_4 => rfl
    case y2_3_4 => (intro w hSw; have he := HE.out; (go_simp <;> with_reducible rfl))
    (try simp only [Act.put, List.setIfInBounds_toArray, List.set_cons_zero, List.set_cons_succ])
    refine wpAnyH_take (i := 4) (oi := ?o2_4_5) (v := ?v2_4_5) ?i2_4_5 (by kernel_rfl) (by kernel_rfl) (by kernel_rfl) (fun _ _ _ h => h) (Or.inl ⟨?g2_4_5, ?y2_4_5⟩) hS ?_
    case i2_4_5 => simp only [List.getElem?_toArray, List.getElem?_cons_succ, List.getElem?_cons_zero]; rfl
    case g2_4_5 => rfl
    case y2_4_5 => (intro w hSw; (go_simp <;> with_reducible rfl))
    (try simp only [Act.put, List.setIfInBounds_toArray, List.set_cons_zero, List.set_cons_succ])
    refine wpAnyH_done (by kernel_rfl) ?_ _
    refine NoPanic.normal ?_
    clear hS
    go_wp2
    go_ret
    exact ⟨rfl, HB3.out⟩
set_option maxRecDepth 100000 in
set_option maxHeartbeats 1000000 in
theorem find_any (s : Stp) (f : NdF) (A : Option Addr) (c : Nat) (w : World) (hk : RowT w.heap.size w (.slice A f.len c) f) (hl : f.len ≤ 1000000) :
    Calls Try.prog 39 #[.slice A f.len c, .agg #[.string (txt s.1), .string (txt s.2)]] w (Ans9 (.int .i64 (findIx s f)) w) := by
  have hb : Blk (w.alloc (.cells #[.string (txt s.1), .string (txt s.2)] 43)) w.heap.size 43 #[.string (txt s.1), .string (txt s.2)] := Blk.new _ _ _
  have hB : Below w.heap.size w (w.alloc (.cells #[.string (txt s.1), .string (txt s.2)] 43)) := (Below.refl _ _).alloc (Nat.le_refl _) _
  have HC : Hid (Calls Try.prog 46 #[.slice A f.len c, .func (.func 50) #[] #[.pointer (some ⟨w.heap.size, 0, none⟩)]] (w.alloc (.cells #[.string (txt s.1), .string (txt s.2)] 43)) (Ans9 (.int .i64 (findIx s f)) (w.alloc (.cells #[.string (txt s.1), .string (txt s.2)] 43)))) := Lib.hid (by
    rw [← ixI_find]
    exact indexf_any (fun a => decide (stp a = s)) 50 #[.pointer (some ⟨w.heap.size, 0, none⟩)] f A c (w.alloc (.cells #[.string (txt s.1), .string (txt s.2)] 43)) (hk.below hB) hl
      (fun a v W _ hW => find1_any a v s w.heap.size W (hb.below hW hb.lt)) (fun _ _ => Go.Proofs.enters_of Try.func50 (by kernel_rfl) rfl _ _))
  have HB := Lib.hid hB
  clear hb hB hk hl
  go_enter Try.func39, Try.ntmps39
  go_wp2_with fail
  refine HC.out.mono ?_
  rintro r w2 ⟨rfl, hb⟩
  have HB2 := Lib.hid (HB.out.trans (hb.mono HB.out.size))
  clear hb
  go_wp2
  go_ret
  exact ⟨rfl, HB2.out⟩
/-- The node x stands at a place. -/
def NodeAt (w : World) (g o : Nat) (x : Nd) : Prop := g < w.heap.size ∧ ∃ A c, (∀ j u, (ndC x.1 (.slice A x.2.len c))[j]? = some u → w.cell? ⟨g, o + j, none⟩ = some u) ∧ RowT w.heap.size w (.slice A x.2.len c) x.2
theorem NodeAt.below {w w' : World} {g o : Nat} {x : Nd} (h : NodeAt w g o x) (hb : Below w.heap.size w w') : NodeAt w' g o x := by
  obtain ⟨h0, A, c, h1, h2⟩ := h
  exact ⟨Nat.lt_of_lt_of_le h0 hb.size, A, c, fun j u hu => (hb.cell (p := ⟨g, o + j, none⟩) h0).trans (h1 j u hu), h2.below hb⟩
/-- Where what stands at the end of a way from the node at ⟨g, o⟩ stands. -/
def PAt (w : World) : Nd → List Stp → Nat → Nat → Nat → Nat → Prop
  | _, [], g, o, g', o' => g' = g ∧ o' = o
  | x, s :: l, g, o, g', o' => ∃ i y b p n c, findN s x.2 = some i ∧ x.2.get? i = some y ∧ w.cell? ⟨g, o + 5, none⟩ = some (.slice (some ⟨b, p, none⟩) n c) ∧ PAt w y l b (p + i * 6) g' o'
/-- What at leaves. -/
def AtP (x : Nd) (l : List Stp) (g o : Nat) (w : World) (r : Ending) (w' : World) : Prop :=
  Below w.heap.size w w' ∧ ((getX x l = none ∧ r = .returned (.pointer none)) ∨ ∃ y g' o', getX x l = some y ∧ r = .returned (.pointer (some ⟨g', o', none⟩)) ∧ NodeAt w g' o' y ∧ PAt w x l g o g' o')
theorem getX_none {x : Nd} {s : Stp} {l : List Stp} (h : findN s x.2 = none) : getX x (s :: l) = none := by simp only [getX]; rw [findN_none h]
theorem getX_some {x y : Nd} {s : Stp} {l : List Stp} {i : Nat} (h : findN s x.2 = some i) (hy : x.2.get? i = some y) : getX x (s :: l) = getX y l := by
  simp only [getX]
  obtain ⟨z, h1, h2, h3⟩ := find_stp h
  rw [hy] at h1
  injection h1 with h1
  rw [h3, ← h1]
/-- The rest of a way. -/
def Rest9 (w : World) (x : Nd) (l : List Stp) (g o : Nat) (y : Nd) (j g1 o1 : Nat) : Prop := getX x l = getX y (l.drop j) ∧ NodeAt w g1 o1 y ∧ y.2.size ≤ 1000000 ∧ ∀ g' o', PAt w y (l.drop j) g1 o1 g' o' → PAt w x l g o g' o'
set_option maxRecDepth 100000 in
set_option maxHeartbeats 4000000 in
theorem at_any (x : Nd) (l : List Stp) (g o : Nat) (v : Value) (w : World) (hx : NodeAt w g o x) (hv : WayV w.heap.size w v l) (hf : Few9 x) (hll : l.length ≤ 1000000) :
    Calls Try.prog 34 #[.pointer (some ⟨g, o, none⟩), v] w (AtP x l g o w) := by
  obtain ⟨B, m, rfl⟩ := hv.shape
  have HV : Hid (WayV w.heap.size w (.slice B l.length m) l) := Lib.hid hv
  have HLL : Hid (l.length ≤ 1000000) := Lib.hid hll
  have HR0 : Hid (Rest9 w x l g o x 0 g o) := Lib.hid ⟨rfl, hx, hf, fun _ _ h => h⟩
  clear hx hv hf hll
  go_enter Try.func34, Try.ntmps34
  go_wp2
  go_loopw [0, 10] (fun n i wr => ∃ (j g1 o1 : Nat) (y : Nd), j ≤ l.length ∧ i = .int .i64 (j : Int) ∧ n = .pointer (some ⟨g1, o1, none⟩) ∧ Hid (Rest9 w x l g o y j g1 o1) ∧ Below w.heap.size w wr) (fun _ i _ => l.length - (intOf i).toNat)
  case atStart => exact ⟨0, g, o, x, Nat.zero_le _, rfl, rfl, HR0, Below.refl _ _⟩
  case round =>
    clear HR0
    obtain ⟨j, g1, o1, y, hj, rfl, rfl, HR, hB⟩ := hrel
    have HBr := Lib.hid hB
    by_cases hlt : j < l.length
    · obtain ⟨s, hs⟩ : ∃ s, l[j]? = some s := ⟨_, List.getElem?_eq_getElem hlt⟩
      have hdr : l.drop j = s :: l.drop (j + 1) := by
        rw [List.drop_eq_getElem_cons hlt]
        rw [List.getElem?_eq_getElem hlt] at hs
        injection hs with hs
        rw [hs]
      obtain ⟨gv, ov, rfl, -, hmm, hgv, t0, t1⟩ := HV.out.at hs
      obtain ⟨a, f⟩ := y
      obtain ⟨-, hnd, hys, hpa⟩ := HR.out
      have hnd0 := hnd
      obtain ⟨hg1, A, c, hcl, hrow⟩ := hnd
      have i1 : (0 : Int) ≤ (j : Int) := by omega
      have i2 : (j : Int) < (l.length : Int) := by omega
      have i3 : (l.length : Int) ≤ 1000000 := by have := HLL.out; omega
      have s0 : wr.cell? ⟨gv, ov + j * 2, none⟩ = some (.string (txt s.1)) := (hB.cell (p := ⟨gv, ov + j * 2, none⟩) hgv).trans t0
      have s1 : wr.cell? ⟨gv, ov + j * 2 + 1, none⟩ = some (.string (txt s.2)) := (hB.cell (p := ⟨gv, ov + j * 2 + 1, none⟩) hgv).trans t1
      have hBS : Below w.heap.size w (wr.alloc (.cells #[.string (txt s.1), .string (txt s.2)] 43)) := hB.alloc hB.size _
      have HS0 : Hid ((∀ j u, (ndC a (.slice A f.len c))[j]? = some u → (wr.alloc (.cells #[.string (txt s.1), .string (txt s.2)] 43)).drew.cell? ⟨g1, o1 + j, none⟩ = some u) ∧ Blk (wr.alloc (.cells #[.string (txt s.1), .string (txt s.2)] 43)).drew wr.heap.size 43 #[.string (txt s.1), .string (txt s.2)]) := Lib.hid ⟨fun j u hu => (hBS.drew.cell (p := ⟨g1, o1 + j, none⟩) hg1).trans (hcl j u hu), Blk.new wr 43 #[.string (txt s.1), .string (txt s.2)]⟩
      have HFi : Hid (Calls Try.prog 39 #[.slice A f.len c, .agg #[.string (txt s.1), .string (txt s.2)]] (wr.alloc (.cells #[.string (txt s.1), .string (txt s.2)] 43)).drew (Ans9 (.int .i64 (findIx s f)) (wr.alloc (.cells #[.string (txt s.1), .string (txt s.2)] 43)).drew)) := Lib.hid (find_any s f A c (wr.alloc (.cells #[.string (txt s.1), .string (txt s.2)] 43)).drew (hrow.under hBS.drew (Nat.le_refl _) hBS.drew.size) (Nat.le_trans (Fr.len_size f) hys))
      have HG1 := Lib.hid hg1
      have HBS := Lib.hid hBS.drew
      have HN := Lib.hid hcl
      have HRW := Lib.hid hrow
      have HYS := Lib.hid hys
      have HDR := Lib.hid hdr
      obtain ⟨z, hz⟩ : ∃ z, z = findIx s f := ⟨_, rfl⟩
      rw [← hz] at HFi
      have HZ := Lib.hid hz
      clear hs t0 t1 hgv hmm hnd0 hcl hrow hys hpa hdr hBS hB hg1 hz
      go_wp2_with fail
      refine wp_region_noPanic ?_
      refine wp_region_held_drew (S := fun _ => True) (by kernel_rfl) trivial (fun hS => ?_)
      refine held_more (S' := fun w' => (∀ j u, (ndC a (.slice A f.len c))[j]? = some u → w'.cell? ⟨g1, o1 + j, none⟩ = some u) ∧ Blk w' wr.heap.size 43 #[.string (txt s.1), .string (txt s.2)]) (fun _ _ => trivial) _ _ _ _ ?_
      replace hS := HS0.out
      refine wpAnyH_take (i := 0) (oi := ?o3_0_1) (v := ?v3_0_1) ?i3_0_1 (by kernel_rfl) (by kernel_rfl) (by kernel_rfl) (fun _ _ _ h => h) (Or.inl ⟨?g3_0_1, ?y3_0_1⟩) hS ?_
      case i3_0_1 => simp only [List.getElem?_toArray, List.getElem?_cons_succ, List.getElem?_cons_zero]; rfl
      case g3_0_1 => rfl
      case y3_0_1 => (intro w hSw; (go_simp <;> with_reducible rfl))
      (try simp only [Act.put, List.setIfInBounds_toArray, List.set_cons_zero, List.set_cons_succ])
      refine wpAnyH_take (i := 1) (oi := ?o3_1_2) (v := ?v3_1_2) ?i3_1_2 (by kernel_rfl) (by kernel_rfl) (by kernel_rfl) (fun _ _ _ h => h) (Or.inl ⟨?g3_1_2, ?y3_1_2⟩) hS ?_
      case i3_1_2 => simp only [List.getElem?_toArray, List.getElem?_cons_succ, List.getElem?_cons_zero]; rfl
      case g3_1_2 => rfl
      case y3_1_2 => (intro w hSw; (go_simp <;> with_reducible rfl))
      (try simp only [Act.put, List.setIfInBounds_toArray, List.set_cons_zero, List.set_cons_succ])
      refine wpAnyH_take (i := 2) (oi := ?o3_2_3) (v := ?v3_2_3) ?i3_2_3 (by kernel_rfl) (by kernel_rfl) (by kernel_rfl) (fun _ _ _ h => h) (Or.inl ⟨?g3_2_3, ?y3_2_3⟩) hS ?_
      case i3_2_3 => simp only [List.getElem?_toArray, List.getElem?_cons_succ, List.getElem?_cons_zero]; rfl
      case g3_2_3 => rfl
      case y3_2_3 => (intro w hSw; (go_simp <;> with_reducible rfl))
      (try simp only [Act.put, List.setIfInBounds_toArray, List.set_cons_zero, List.set_cons_succ])
      refine wpAnyH_take (i := 3) (oi := ?o3_3_4) (v := ?v3_3_4) ?i3_3_4 (by kernel_rfl) (by kernel_rfl) (by kernel_rfl) (fun _ _ _ h => h) (Or.inl ⟨?g3_3_4, ?y3_3_4⟩) hS ?_
      case i3_3_4 => simp only [List.getElem?_toArray, List.getElem?_cons_succ, List.getElem?_cons_zero]; rfl
      case g3_3_4 => rfl
      case y3_3_4 => (intro w hSw; have q5 := hSw.1 5 _ rfl; (go_simp <;> with_reducible rfl))
      (try simp only [Act.put, List.setIfInBounds_toArray, List.set_cons_zero, List.set_cons_succ])
      refine wpAnyH_take (i := 4) (oi := ?o3_4_5) (v := ?v3_4_5) ?i3_4_5 (by kernel_rfl) (by kernel_rfl) (by kernel_rfl) (fun _ _ _ h => h) (Or.inl ⟨?g3_4_5, ?y3_4_5⟩) hS ?_
      case i3_4_5 => simp only [List.getElem?_toArray, List.getElem?_cons_succ, List.getElem?_cons_zero]; rfl
      case g3_4_5 => rfl
      case y3_4_5 => (intro w hSw; have q0 := (hSw.2.cell 0).trans rfl; have q1 := (hSw.2.cell 1).trans rfl; (go_simp <;> with_reducible rfl))
      (try simp only [Act.put, List.setIfInBounds_toArray, List.set_cons_zero, List.set_cons_succ])
      refine wpAnyH_ready (rs := [5]) (by kernel_rfl) (by simp) ?_
      refine (AllReadyH.cons (o := ?or3_6_5) ?ir3_6_5 (fun K hK => ?str3_6_5) AllReadyH.nil)
      case ir3_6_5 => simp only [List.getElem?_toArray, List.getElem?_cons_succ, List.getElem?_cons_zero]; rfl
      rw [if_pos (by rfl)]
      go_simp
      refine HFi.out.mono ?_
      rintro r w3 ⟨rfl, hb3⟩
      have HS3 := Lib.hid (And.intro (fun j u hu => (hb3.cell (p := ⟨g1, o1 + j, none⟩) (Nat.lt_of_lt_of_le HG1.out HBS.out.size)).trans (HS0.out.1 j u hu)) (HS0.out.2.below hb3 HS0.out.2.lt))
      have HB3 := Lib.hid (HBS.out.trans (hb3.mono HBS.out.size))
      clear hb3
      go_wp2_with fail
      refine hK.out _ _ ?sr3_6_5 (fun hS => ?_)
      case sr3_6_5 => (exact HS3.out)
      clear hK K
      (try simp only [Act.put, List.setIfInBounds_toArray, List.set_cons_zero, List.set_cons_succ])
      refine wpAnyH_take (i := 6) (oi := ?o3_6_7) (v := ?v3_6_7) ?i3_6_7 (by kernel_rfl) (by kernel_rfl) (by kernel_rfl) (fun _ _ _ h => h) (Or.inl ⟨?g3_6_7, ?y3_6_7⟩) hS ?_
      case i3_6_7 => simp only [List.getElem?_toArray, List.getElem?_cons_succ, List.getElem?_cons_zero]; rfl
      case g3_6_7 => rfl
      case y3_6_7 => (intro w hSw; (go_simp <;> with_reducible rfl))
      (try simp only [Act.put, List.setIfInBounds_toArray, List.set_cons_zero, List.set_cons_succ])
      refine wpAnyH_done (by kernel_rfl) ?_ _
      refine NoPanic.normal ?_
      clear hS s0 s1
      cases hfi : findN s f with
      | none =>
        have hz2 : z = -1 := by rw [HZ.out]; unfold findIx; rw [hfi]
        have HE : Hid (getX x l = none) := Lib.hid (by rw [HR.out.1, HDR.out]; exact getX_none hfi)
        subst hz2
        clear hfi
        go_wp2
        go_ret
        exact ⟨HB3.out, .inl ⟨HE.out, rfl⟩⟩
      | some i =>
        obtain ⟨⟨a1, q⟩, hy, -, -⟩ := find_stp hfi
        have hz2 : z = (i : Int) := by rw [HZ.out]; unfold findIx; rw [hfi]
        have hi := Fr.get_lt hy
        obtain ⟨b, p, A1, c1, rfl, -, -, hbl, hr1, hc1⟩ := HRW.out.at hy
        have j1 : (0 : Int) ≤ (i : Int) := by omega
        have j2 : (i : Int) < (f.len : Int) := by omega
        have j3 : ¬ (i : Int) < 0 := by omega
        have j4 : decide ((i : Int) < 0) = false := decide_eq_false (by omega)
        have q5 : w3.cell? ⟨g1, o1 + 5, none⟩ = some (.slice (some ⟨b, p, none⟩) f.len c) := HS3.out.1 5 _ rfl
        have HR2 : Hid (Rest9 w x l g o (a1, q) (j + 1) b (p + i * 6)) := Lib.hid ⟨by rw [HR.out.1, HDR.out]; exact getX_some hfi hy, ⟨hbl, A1, c1, hc1, hr1⟩, by have := Fr.size_get hy; have := HYS.out; show q.size ≤ 1000000; omega, fun g' o' h => HR.out.2.2.2 g' o' (by rw [HDR.out]; exact ⟨i, (a1, q), b, p, f.len, c, hfi, hy, HN.out 5 _ rfl, h⟩)⟩
        subst hz2
        clear hfi hy hbl hr1 hc1 hi
        go_wp2
        go_roundw
        case rel => exact ⟨j + 1, b, p + i * 6, (a1, q), by omega, by go_num, rfl, HR2, HB3.out⟩
        case measure => simp [intOf]; omega
    · have i2 : ¬ (j : Int) < (l.length : Int) := by omega
      have HE : Hid (getX x l = some y ∧ NodeAt w g1 o1 y ∧ PAt w x l g o g1 o1) := Lib.hid (by
        obtain ⟨h1, h2, -, h3⟩ := HR.out
        rw [show l.drop j = [] from List.drop_eq_nil_of_le (by omega)] at h1 h3
        exact ⟨h1, h2, h3 _ _ ⟨rfl, rfl⟩⟩)
      clear hB
      go_wp2
      go_ret
      exact ⟨HBr.out, .inr ⟨y, g1, o1, HE.out.1, rfl, HE.out.2.1, HE.out.2.2⟩⟩
end Go.Proofs.Ytgipnemcmiohlaa
namespace Go.Proofs.Ytgipnemcmiohlaa
open Go.RowKit
set_option linter.unusedSimpArgs false
set_option linter.unusedVariables false
/-- What a copy of a row leaves. -/
def CloneP (b : Nat) (f : NdF) (w : World) (r : Ending) (w' : World) : Prop := ∃ v xs, r = .returned v ∧ OwnK 27 6 w' w.heap.size v f.len xs ∧ rowG NdT 6 5 w (fun g => g < b) noB xs f ∧ Below w.heap.size w w'
set_option maxRecDepth 100000 in
set_option maxHeartbeats 1000000 in
theorem clone_none (b : Nat) (f : NdF) (c : Nat) (w : World) (hf : f.len = 0) : Calls Try.prog 42 #[.slice none f.len c] w (CloneP b f w) := by
  have e : f = .nil := by
    cases f with
    | nil => rfl
    | cons => simp [Fr.len] at hf
  subst e
  have HC : Hid (CloneP b (.nil : NdF) w (.returned (.slice none 0 0)) w) := Lib.hid ⟨_, [], rfl, OwnK.nil _ _ _ _, rfl, Below.refl _ _⟩
  clear hf
  have e9 : ∀ W, (binOp .eql 25 (.slice none (Fr.nil : NdF).len c) (.slice none 0 0)).run Try.prog W = .ok (.bool true) W := fun W => Go.Lib.run_eql_slice_nil W _ _ _ _ _ _ _ Try.underlying25
  go_enter Try.func42, Try.ntmps42
  go_wp2
  go_ret
  exact HC.out
set_option maxRecDepth 100000 in
set_option maxHeartbeats 1000000 in
theorem clone_some (b : Nat) (f : NdF) (ad : Addr) (c : Nat) (w : World) (hbw : b ≤ w.heap.size) (hk : RowT b w (.slice (some ad) f.len c) f) (hl : f.len ≤ 1000000) : Calls Try.prog 42 #[.slice (some ad) f.len c] w (CloneP b f w) := by
  have HB : Hid (Below w.heap.size w (w.alloc (.cells #[] 27))) := Lib.hid ((Below.refl _ _).alloc (Nat.le_refl _) _)
  have hbk : Blk (w.alloc (.cells #[] 27)) w.heap.size 27 #[] := Blk.new _ _ _
  have HO : Hid (OwnG NdT 27 6 5 (w.alloc (.cells #[] 27)) w.heap.size (fun g => g < b) noB (.slice (some ⟨w.heap.size, 0, none⟩) 0 0) (.nil : NdF)) := Lib.hid
    (OwnG.lit (f := .nil) (xs := []) hbk (Nat.le_refl _) (by simp [Fr.len]) rfl (fun k hk => ⟨by simp; omega, by omega⟩) (fun k hk => hk.elim))
  have HS : Hid (FrV NdT 6 5 (w.alloc (.cells #[] 27)) (fun g => g < b) noB (.slice (some ad) f.len c) f) := Lib.hid (FrV.kept stay_nd hk (fun g hg => HB.out.block g (Nat.lt_of_lt_of_le hg hbw)) (fun _ h => h) (fun _ h => h.elim) (fun _ h => h))
  have HL := Lib.hid hl
  have HBW := Lib.hid hbw
  have HL2 : Hid ((Fr.nil : NdF).len = 0) := Lib.hid rfl
  clear hk hl hbk hbw
  have e9 : ∀ W, (binOp .eql 25 (.slice (some ad) f.len c) (.slice none 0 0)).run Try.prog W = .ok (.bool false) W := fun W => Go.Lib.run_eql_slice_nil W _ _ _ _ _ _ _ Try.underlying25
  go_enter Try.func42, Try.ntmps42
  go_wp2_with (at_builtin; refine wpList_append_gs stay_nd one_nd Try.underlying25 Try.cellsNd rfl (by decide) rfl (.tmp 5) (.tmp 6) rfl rfl rfl HO.out rfl HS.out ?h1 ?h2 ?h3 ?_)
  case h1 => have := HL.out; rw [HL2.out]; omega
  case h2 => have := HL.out; rw [HL2.out]; omega
  case h3 => simp
  intro v' w' hap
  have HP : Hid (CloneP b f w (.returned v') w') := Lib.hid (by
    have hB := HB.out.trans (AppGs.below hap HO.out (by simp))
    obtain ⟨⟨hs, hn, xs, k1, k2⟩, h2, h3⟩ := hap
    exact ⟨v', xs, rfl, k1, k2.kept stay_nd (fun g hg => (hB.block g (Nat.lt_of_lt_of_le hg HBW.out)).symm) (fun _ h => h) (fun _ h => h.elim) (fun _ h => h), hB⟩)
  clear hap
  obtain ⟨v2, hv2⟩ : ∃ v2, v2 = v' := ⟨_, rfl⟩
  subst hv2
  go_wp2
  go_ret
  exact HP.out
theorem clone_any (b : Nat) (f : NdF) (A : Option Addr) (c : Nat) (w : World) (hbw : b ≤ w.heap.size) (hk : RowT b w (.slice A f.len c) f) (hl : f.len ≤ 1000000) : Calls Try.prog 42 #[.slice A f.len c] w (CloneP b f w) := by
  cases A with
  | none =>
    refine clone_none b f c w ?_
    obtain ⟨A', c', e, h1, h2⟩ := hk
    injection e with e1 e2 e3
    subst e1
    by_cases h0 : 0 < f.len
    · obtain ⟨_, _, he, _⟩ := h2 h0
      cases he
    · omega
  | some ad => exact clone_some b f ad c w hbw hk hl
/-- What copied leaves. -/
def CopP (a : NdD) (f : NdF) (w : World) (r : Ending) (w' : World) : Prop := ∃ v F, r = .returned (.agg #[.string (txt a.name), .string (txt a.key), .int .i64 a.kind, .int .u64 (a.num : Int), .string (txt a.text), v]) ∧ OwnU w' w.heap.size v f F ∧ F.Nodup ∧ Below w.heap.size w w'
/-- How far a row is copied: up to place j; M: so many blocks there were when its own row had been made. -/
def CopI (w : World) (M : Nat) (f : NdF) (v : Value) (j : Nat) (wr : World) : Prop := ∃ zs rest F, OwnK 27 6 wr w.heap.size v f.len (zs ++ rest) ∧ OwnT wr w.heap.size (Fr.take j f) zs F ∧ rowG NdT 6 5 w (fun g => g < w.heap.size) noB rest (Fr.drop j f) ∧ F.Nodup ∧ ∀ g, g ∈ F → M ≤ g
theorem cells6 {l : List Value} (h : l.length = 6) : ∃ y0 y1 y2 y3 y4 y5, l = [y0, y1, y2, y3, y4, y5] := by
  match l, h with
  | [y0, y1, y2, y3, y4, y5], _ => exact ⟨y0, y1, y2, y3, y4, y5, rfl⟩
theorem cop_kid {w wr : World} {M b c j : Nat} {f q : NdF} {a1 : NdD} (h : CopI w M f (.slice (some ⟨b, 0, none⟩) f.len c) j wr) (hy : f.get? j = some (a1, q)) :
    ∃ A' c', (∀ i u, (ndC a1 (.slice A' q.len c'))[i]? = some u → wr.cell? ⟨b, j * 6 + i, none⟩ = some u) ∧ RowT w.heap.size w (.slice A' q.len c') q := by
  obtain ⟨zs, rest, F, h1, h2, h3, h4, h5⟩ := h
  have hlt := Fr.get_lt hy
  rw [(Fr.get_drop hy).1] at h3
  obtain ⟨cs, ys, rfl, h6, h7⟩ := h3
  obtain ⟨A', c', rfl, hr⟩ := LieB.shape (x := (a1, q)) h6
  refine ⟨A', c', fun i u hu => ?_, hr⟩
  have hi : i < 6 := (List.getElem?_eq_some_iff.1 hu).1
  have hz : zs.length = j * 6 := by rw [h2.len, Fr.len_take _ _ (by omega)]
  have h8 := World.ownsRow.cellAt h1 (j * 6 + i) (by omega)
  rw [h8, List.getElem?_append_right (by omega), hz, show j * 6 + i - j * 6 = i by omega, List.getElem?_append_left (by simpa using hi)]
  exact hu
theorem cop_step {w wr w3 : World} {M B1 b c j : Nat} {f q : NdF} {a1 : NdD} {v1 : Value} {F1 : List Nat} (h : CopI w M f (.slice (some ⟨b, 0, none⟩) f.len c) j wr) (hy : f.get? j = some (a1, q)) (hw : w.heap.size ≤ wr.heap.size) (hb : Below wr.heap.size wr w3) (hM : M ≤ wr.heap.size) (hbM : b < M)
    (hU : OwnU w3 B1 v1 q F1) (hB1 : wr.heap.size ≤ B1) (hnd : F1.Nodup) : CopI w M f (.slice (some ⟨b, 0, none⟩) f.len c) (j + 1) (set6o w3 b (j * 6) (.string (txt a1.name)) (.string (txt a1.key)) (.int .i64 a1.kind) (.int .u64 (a1.num : Int)) (.string (txt a1.text)) v1) := by
  obtain ⟨zs, rest, F, h1, h2, h3, h4, h5⟩ := h
  have hlt := Fr.get_lt hy
  rw [(Fr.get_drop hy).1] at h3
  obtain ⟨cs, ys, rfl, h6, h7⟩ := h3
  have hz : zs.length = j * 6 := by rw [h2.len, Fr.len_take _ _ (by omega)]
  obtain ⟨y0, y1, y2, y3, y4, y5, rfl⟩ := cells6 h6.1
  have hF : ∀ g, g ∈ F → g < wr.heap.size := fun g hg => (h2.fresh g hg).lt
  have hF1 : ∀ g, g ∈ F1 → wr.heap.size ≤ g := fun g hg => Nat.le_trans hB1 (hU.fresh g hg).1
  have k1 := OwnK.set6o (h1.below hb) hz (.string (txt a1.name)) (.string (txt a1.key)) (.int .i64 a1.kind) (.int .u64 (a1.num : Int)) (.string (txt a1.text)) v1
  refine ⟨zs ++ ndC a1 v1, ys, F ++ F1, by rw [List.append_assoc]; exact k1, ?_, h7, ?_, ?_⟩
  · rw [(Fr.get_drop hy).2]
    exact OwnT.app (OwnT.one (hU.keep (fun g hg => set6o_other (by have := hF1 g hg; omega)) (by omega))) (h2.keep (Nat.le_refl _) (fun g hg => (set6o_other (by have := h5 g hg; omega)).trans (hb.block g (hF g hg))))
  · rw [List.nodup_append]
    exact ⟨h4, hnd, fun x hx y hy e => by have := hF x hx; have := hF1 y hy; omega⟩
  · intro g hg
    rcases List.mem_append.1 hg with hg | hg
    · exact h5 g hg
    · have := hF1 g hg; omega
theorem CopI.keep {w wr wr' : World} {M j : Nat} {f : NdF} {v : Value} (h : CopI w M f v j wr) (hk : ∀ g, (v.ownBlock = some g ∨ M ≤ g) → g < wr.heap.size → wr'.heap[g]? = wr.heap[g]?) : CopI w M f v j wr' := by
  obtain ⟨zs, rest, F, h1, h2, h3, h4, h5⟩ := h
  exact ⟨zs, rest, F, h1.keep (fun g hg => hk g (.inl hg) (h1.lt g hg).2), h2.keep (Nat.le_refl _) (fun g hg => hk g (.inr (h5 g hg)) (h2.fresh g hg).lt), h3, h4, h5⟩
theorem cop_end {w wr : World} {M : Nat} {f : NdF} {v : Value} (h : CopI w M f v f.len wr) (hv : ∀ g, v.ownBlock = some g → g < M) : ∃ F, OwnU wr w.heap.size v f F ∧ F.Nodup ∧ ∀ g, g ∈ F → v.ownBlock = some g ∨ M ≤ g := by
  obtain ⟨zs, rest, F, h1, h2, h3, h4, h5⟩ := h
  rw [Fr.drop_all] at h3
  rw [show rest = [] from h3, List.append_nil] at h1
  rw [Fr.take_all] at h2
  have hm : ∀ g, g ∈ v.ownBlock.toList ++ F → v.ownBlock = some g ∨ M ≤ g := fun g hg => by
    rcases List.mem_append.1 hg with hg | hg
    · exact .inl (by simpa using hg)
    · exact .inr (h5 g hg)
  refine ⟨v.ownBlock.toList ++ F, ⟨zs, F, rfl, h1, h2⟩, ?_, hm⟩
  clear hm
  cases hb : v.ownBlock with
  | none => simpa using h4
  | some g =>
    simp only [Option.toList, List.cons_append, List.nil_append, List.nodup_cons]
    exact ⟨fun hm => by have := h5 g hm; have := hv g hb; omega, h4⟩
theorem cop_frozen {w wr : World} {M b c j : Nat} {f : NdF} (h : CopI w M f (.slice (some ⟨b, 0, none⟩) f.len c) j wr) (o : Nat) : wr.frozen? ⟨b, o, none⟩ = false := by
  obtain ⟨zs, rest, F, h1, -⟩ := h
  rcases h1.2 with ⟨h', _⟩ | ⟨g, cap, cur, h', _, hg, _⟩
  · cases h'
  · injection h' with h'
    injection h' with h'
    injection h' with h'
    subst h'
    simp [World.frozen?, hg]
def CopyP (f : NdF) : Prop := ∀ (a : NdD) (A : Option Addr) (c : Nat) (w : World), RowT w.heap.size w (.slice A f.len c) f → f.size ≤ 1000000 →
    Calls Try.prog 28 #[.agg #[.string (txt a.name), .string (txt a.key), .int .i64 a.kind, .int .u64 (a.num : Int), .string (txt a.text), .slice A f.len c]] w (CopP a f w)
set_option maxRecDepth 100000 in
set_option maxHeartbeats 4000000 in
theorem copy_row (f : NdF) (hkids : ∀ n a k, f.get? n = some (a, k) → CopyP k) : CopyP f := by
  intro a A c w hk hsz
  obtain ⟨h1, h2, h3, h4⟩ := get_boxes a f A c w (LieB.make hk)
  have HI := Lib.hid hkids
  have HZS : Hid (f.size ≤ 1000000) := Lib.hid hsz
  have HQ := Lib.hid (And.intro h1 (And.intro h2 h3))
  have hs0 : ((w.alloc (.cells #[.string (txt a.name), .string (txt a.key), .int .i64 a.kind, .int .u64 (a.num : Int), .string (txt a.text), .slice A f.len c] 27)).alloc (.cells #[.string ⟨#[]⟩, .string ⟨#[]⟩, .int .i64 0, .int .u64 0, .string ⟨#[]⟩, .slice none 0 0] 27)).heap.size = w.heap.size + 2 := by simp
  have HC : Hid (Calls Try.prog 42 #[.slice A f.len c] ((w.alloc (.cells #[.string (txt a.name), .string (txt a.key), .int .i64 a.kind, .int .u64 (a.num : Int), .string (txt a.text), .slice A f.len c] 27)).alloc (.cells #[.string ⟨#[]⟩, .string ⟨#[]⟩, .int .i64 0, .int .u64 0, .string ⟨#[]⟩, .slice none 0 0] 27)) (CloneP w.heap.size f ((w.alloc (.cells #[.string (txt a.name), .string (txt a.key), .int .i64 a.kind, .int .u64 (a.num : Int), .string (txt a.text), .slice A f.len c] 27)).alloc (.cells #[.string ⟨#[]⟩, .string ⟨#[]⟩, .int .i64 0, .int .u64 0, .string ⟨#[]⟩, .slice none 0 0] 27)))) := Lib.hid (clone_any w.heap.size f A c ((w.alloc (.cells #[.string (txt a.name), .string (txt a.key), .int .i64 a.kind, .int .u64 (a.num : Int), .string (txt a.text), .slice A f.len c] 27)).alloc (.cells #[.string ⟨#[]⟩, .string ⟨#[]⟩, .int .i64 0, .int .u64 0, .string ⟨#[]⟩, .slice none 0 0] 27)) h3.size (hk.under h3 (Nat.le_refl _) (Nat.le_refl _)) (Nat.le_trans (Fr.len_size f) hsz))
  have HK : Hid (RowT w.heap.size w (.slice A f.len c) f) := Lib.hid hk
  have HS0 := Lib.hid hs0
  have q0 := (HQ.out.1.cell 0).trans rfl
  have q1 := (HQ.out.1.cell 1).trans rfl
  have q2 := (HQ.out.1.cell 2).trans rfl
  have q3 := (HQ.out.1.cell 3).trans rfl
  have q4 := (HQ.out.1.cell 4).trans rfl
  have q5 := (HQ.out.1.cell 5).trans rfl
  clear hkids hk hsz h1 h2 h3 h4 hs0
  go_enter Try.func28, Try.ntmps28
  go_wp2_with fail
  refine HC.out.mono ?_
  rintro r w2 ⟨v, xs, rfl, hown, hrow, hb2⟩
  obtain ⟨A1, c1, rfl⟩ := hown.shape
  have HX2 := Lib.hid (HQ.out.1.below hb2 HQ.out.1.lt)
  have HZ2 := Lib.hid (HQ.out.2.1.below hb2 HQ.out.2.1.lt)
  have HB2 := Lib.hid (HQ.out.2.2.trans (hb2.mono HQ.out.2.2.size))
  have HX3 : Hid (Blk (w2.setCell ⟨w.heap.size, 5, none⟩ (.slice A1 f.len c1)) w.heap.size 27 #[.string (txt a.name), .string (txt a.key), .int .i64 a.kind, .int .u64 (a.num : Int), .string (txt a.text), .slice A1 f.len c1]) := Lib.hid (by
    have h := HX2.out.set_ 5 (.slice A1 f.len c1)
    simp only [List.setIfInBounds_toArray, List.set_cons_zero, List.set_cons_succ] at h
    exact h)
  have HZ3 : Hid (Blk (w2.setCell ⟨w.heap.size, 5, none⟩ (.slice A1 f.len c1)) (w.heap.size + 1) 27 #[.string ⟨#[]⟩, .string ⟨#[]⟩, .int .i64 0, .int .u64 0, .string ⟨#[]⟩, .slice none 0 0]) := Lib.hid (HZ2.out.far (p := ⟨w.heap.size, 5, none⟩) (by show w.heap.size + 1 ≠ w.heap.size; omega) _)
  have HB3 : Hid (Below w.heap.size w (w2.setCell ⟨w.heap.size, 5, none⟩ (.slice A1 f.len c1))) := Lib.hid (HB2.out.setCell (p := ⟨w.heap.size, 5, none⟩) (Nat.le_refl _) _)
  have HVB : Hid (∀ g, (Value.slice A1 f.len c1).ownBlock = some g → w.heap.size + 2 ≤ g ∧ g < w2.heap.size) := Lib.hid (fun g hg => by
    have := hown.lt g hg
    have := HS0.out
    omega)
  have HMS : Hid (w.heap.size + 2 ≤ w2.heap.size) := Lib.hid (by have := hb2.size; have := HS0.out; omega)
  have HCI : Hid (CopI w w2.heap.size f (.slice A1 f.len c1) 0 (w2.setCell ⟨w.heap.size, 5, none⟩ (.slice A1 f.len c1))) := Lib.hid ⟨[], xs, [], (OwnK.mono hown (by have := HS0.out; omega)).keep (fun g hg => Below.heap_setCell _ _ _ _ (by have := HVB.out g hg; show g ≠ w.heap.size; omega)), by cases f <;> exact ⟨rfl, rfl⟩,
    by
      have hy := hrow.kept (w' := w) stay_nd (fun g hg => (HQ.out.2.2.block g hg).symm) (fun _ h => h) (fun _ h => h.elim) (fun _ h => h)
      cases f <;> exact hy, List.nodup_nil, fun g hg => by cases hg⟩
  have g5 : w2.frozen? ⟨w.heap.size, 5, none⟩ = false := HX2.out.frozen 5
  have p5' := (HX2.out.cell 5).trans rfl
  have p0 := (HX3.out.cell 0).trans rfl
  have p1 := (HX3.out.cell 1).trans rfl
  have p2 := (HX3.out.cell 2).trans rfl
  have p3 := (HX3.out.cell 3).trans rfl
  have p4 := (HX3.out.cell 4).trans rfl
  have p5 := (HX3.out.cell 5).trans rfl
  clear hown hrow hb2 q0 q1 q2 q3 q4 q5
  go_wp2
  go_loopw [12] (fun i wr => ∃ j : Nat, j ≤ f.len ∧ i = .int .i64 (j : Int) ∧ Blk wr w.heap.size 27 #[.string (txt a.name), .string (txt a.key), .int .i64 a.kind, .int .u64 (a.num : Int), .string (txt a.text), .slice A1 f.len c1] ∧ Blk wr (w.heap.size + 1) 27 #[.string ⟨#[]⟩, .string ⟨#[]⟩, .int .i64 0, .int .u64 0, .string ⟨#[]⟩, .slice none 0 0] ∧ Below w.heap.size w wr ∧ w2.heap.size ≤ wr.heap.size ∧ Hid (CopI w w2.heap.size f (.slice A1 f.len c1) j wr)) (fun i _ => f.len - (intOf i).toNat)
  case atStart => exact ⟨0, Nat.zero_le _, rfl, HX3.out, HZ3.out, HB3.out, by simp [World.setCell], HCI.out⟩
  case round =>
    clear p0 p1 p2 p3 p4 p5 p5' g5 HX2 HZ2 HB2 HX3 HZ3 HB3 HCI
    obtain ⟨j, hj, rfl, hX, hZ, hB, hM, HC⟩ := hrel
    have HBr := Lib.hid hB
    by_cases hlt : j < f.len
    · obtain ⟨a1, q, hg⟩ := Fr.get_some hlt
      obtain ⟨b, hb⟩ : ∃ b, A1 = some ⟨b, 0, none⟩ := by
        obtain ⟨_, _, _, h1, _⟩ := HC.out
        rcases h1.2 with ⟨h, h0⟩ | ⟨g, cap, cur, h, _⟩
        · omega
        · injection h with h
          exact ⟨g, h⟩
      subst hb
      obtain ⟨A', c', hcl, hr⟩ := cop_kid HC.out hg
      have hbv := HVB.out b rfl
      have s0 : wr.cell? ⟨b, j * 6, none⟩ = _ := hcl 0 _ rfl
      have s1 : wr.cell? ⟨b, j * 6 + 1, none⟩ = _ := hcl 1 _ rfl
      have s2 : wr.cell? ⟨b, j * 6 + 2, none⟩ = _ := hcl 2 _ rfl
      have s3 : wr.cell? ⟨b, j * 6 + 3, none⟩ = _ := hcl 3 _ rfl
      have s4 : wr.cell? ⟨b, j * 6 + 4, none⟩ = _ := hcl 4 _ rfl
      have s5 : wr.cell? ⟨b, j * 6 + 5, none⟩ = _ := hcl 5 _ rfl
      have i1 : (0 : Int) ≤ (j : Int) := by omega
      have i2 : (j : Int) < (f.len : Int) := by omega
      have i3 : (f.len : Int) ≤ 1000000 := by have := HZS.out; have := Fr.len_size f; omega
      have hBK : Below w.heap.size w (wr.alloc (.cells #[.string (txt a1.name), .string (txt a1.key), .int .i64 a1.kind, .int .u64 (a1.num : Int), .string (txt a1.text), .slice A' q.len c'] 27)) := hB.alloc hB.size _
      have HI1 : Hid (Calls Try.prog 28 #[.agg #[.string (txt a1.name), .string (txt a1.key), .int .i64 a1.kind, .int .u64 (a1.num : Int), .string (txt a1.text), .slice A' q.len c']] (wr.alloc (.cells #[.string (txt a1.name), .string (txt a1.key), .int .i64 a1.kind, .int .u64 (a1.num : Int), .string (txt a1.text), .slice A' q.len c'] 27)).drew (CopP a1 q (wr.alloc (.cells #[.string (txt a1.name), .string (txt a1.key), .int .i64 a1.kind, .int .u64 (a1.num : Int), .string (txt a1.text), .slice A' q.len c'] 27)).drew)) := Lib.hid
        (HI.out j a1 q hg a1 A' c' (wr.alloc (.cells #[.string (txt a1.name), .string (txt a1.key), .int .i64 a1.kind, .int .u64 (a1.num : Int), .string (txt a1.text), .slice A' q.len c'] 27)).drew (hr.under hBK.drew (Nat.le_refl _) hBK.drew.size) (by have := HZS.out; have := Fr.size_get hg; omega))
      have HXD : Hid (Blk (wr.alloc (.cells #[.string (txt a1.name), .string (txt a1.key), .int .i64 a1.kind, .int .u64 (a1.num : Int), .string (txt a1.text), .slice A' q.len c'] 27)).drew w.heap.size 27 #[.string (txt a.name), .string (txt a.key), .int .i64 a.kind, .int .u64 (a.num : Int), .string (txt a.text), .slice (some ⟨b, 0, none⟩) f.len c1] ∧ Blk (wr.alloc (.cells #[.string (txt a1.name), .string (txt a1.key), .int .i64 a1.kind, .int .u64 (a1.num : Int), .string (txt a1.text), .slice A' q.len c'] 27)).drew wr.heap.size 27 #[.string (txt a1.name), .string (txt a1.key), .int .i64 a1.kind, .int .u64 (a1.num : Int), .string (txt a1.text), .slice A' q.len c']) := Lib.hid ⟨hX.alloc _, Blk.new wr 27 _⟩
      have HZD : Hid (Blk (wr.alloc (.cells #[.string (txt a1.name), .string (txt a1.key), .int .i64 a1.kind, .int .u64 (a1.num : Int), .string (txt a1.text), .slice A' q.len c'] 27)).drew (w.heap.size + 1) 27 #[.string ⟨#[]⟩, .string ⟨#[]⟩, .int .i64 0, .int .u64 0, .string ⟨#[]⟩, .slice none 0 0]) := Lib.hid (hZ.alloc _)
      have HBD := Lib.hid hBK.drew
      have HBS : Hid (Below wr.heap.size wr (wr.alloc (.cells #[.string (txt a1.name), .string (txt a1.key), .int .i64 a1.kind, .int .u64 (a1.num : Int), .string (txt a1.text), .slice A' q.len c'] 27)).drew) := Lib.hid ((Below.refl _ _).alloc (Nat.le_refl _) _).drew
      have HM := Lib.hid hM
      have HG := Lib.hid hg
      have HBV := Lib.hid hbv
      clear hg hcl hr hX hZ hB hM hBK hbv
      go_wp2_with fail
      clear s0 s1 s2 s3 s4 s5
      refine wp_region_noPanic ?_
      refine wp_region_held_drew (S := fun _ => True) (by kernel_rfl) trivial (fun hS => ?_)
      refine held_more (S' := fun w' => Blk w' w.heap.size 27 #[.string (txt a.name), .string (txt a.key), .int .i64 a.kind, .int .u64 (a.num : Int), .string (txt a.text), .slice (some ⟨b, 0, none⟩) f.len c1] ∧ Blk w' wr.heap.size 27 #[.string (txt a1.name), .string (txt a1.key), .int .i64 a1.kind, .int .u64 (a1.num : Int), .string (txt a1.text), .slice A' q.len c']) (fun _ _ => trivial) _ _ _ _ ?_
      replace hS := HXD.out
      refine wpAnyH_take (i := 0) (oi := ?o1_0_1) (v := ?v1_0_1) ?i1_0_1 (by kernel_rfl) (by kernel_rfl) (by kernel_rfl) (fun _ _ _ h => h) (Or.inl ⟨?g1_0_1, ?y1_0_1⟩) hS ?_
      case i1_0_1 => simp only [List.getElem?_toArray, List.getElem?_cons_succ, List.getElem?_cons_zero]; rfl
      case g1_0_1 => rfl
      case y1_0_1 => (intro w hSw; (go_simp <;> with_reducible rfl))
      (try simp only [Act.put, List.setIfInBounds_toArray, List.set_cons_zero, List.set_cons_succ])
      refine wpAnyH_take (i := 1) (oi := ?o1_1_2) (v := ?v1_1_2) ?i1_1_2 (by kernel_rfl) (by kernel_rfl) (by kernel_rfl) (fun _ _ _ h => h) (Or.inl ⟨?g1_1_2, ?y1_1_2⟩) hS ?_
      case i1_1_2 => simp only [List.getElem?_toArray, List.getElem?_cons_succ, List.getElem?_cons_zero]; rfl
      case g1_1_2 => rfl
      case y1_1_2 => (intro w hSw; have q5 := (hSw.1.cell 5).trans rfl; (go_simp <;> with_reducible rfl))
      (try simp only [Act.put, List.setIfInBounds_toArray, List.set_cons_zero, List.set_cons_succ])
      refine wpAnyH_take (i := 2) (oi := ?o1_2_3) (v := ?v1_2_3) ?i1_2_3 (by kernel_rfl) (by kernel_rfl) (by kernel_rfl) (fun _ _ _ h => h) (Or.inl ⟨?g1_2_3, ?y1_2_3⟩) hS ?_
      case i1_2_3 => simp only [List.getElem?_toArray, List.getElem?_cons_succ, List.getElem?_cons_zero]; rfl
      case g1_2_3 => rfl
      case y1_2_3 => (intro w hSw; (go_simp <;> with_reducible rfl))
      (try simp only [Act.put, List.setIfInBounds_toArray, List.set_cons_zero, List.set_cons_succ])
      refine wpAnyH_take (i := 3) (oi := ?o1_3_4) (v := ?v1_3_4) ?i1_3_4 (by kernel_rfl) (by kernel_rfl) (by kernel_rfl) (fun _ _ _ h => h) (Or.inl ⟨?g1_3_4, ?y1_3_4⟩) hS ?_
      case i1_3_4 => simp only [List.getElem?_toArray, List.getElem?_cons_succ, List.getElem?_cons_zero]; rfl
      case g1_3_4 => rfl
      case y1_3_4 => (intro w hSw; have q0 := (hSw.2.cell 0).trans rfl; have q1 := (hSw.2.cell 1).trans rfl; have q2 := (hSw.2.cell 2).trans rfl; have q3 := (hSw.2.cell 3).trans rfl; have q4 := (hSw.2.cell 4).trans rfl; have q5 := (hSw.2.cell 5).trans rfl; (go_simp <;> with_reducible rfl))
      (try simp only [Act.put, List.setIfInBounds_toArray, List.set_cons_zero, List.set_cons_succ])
      refine wpAnyH_ready (rs := [4]) (by kernel_rfl) (by simp) ?_
      refine (AllReadyH.cons (o := ?or1_5_4) ?ir1_5_4 (fun K hK => ?str1_5_4) AllReadyH.nil)
      case ir1_5_4 => simp only [List.getElem?_toArray, List.getElem?_cons_succ, List.getElem?_cons_zero]; rfl
      rw [if_pos (by rfl)]
      go_simp
      refine HI1.out.mono ?_
      rintro r w3 ⟨v1, F1, rfl, hU, hnd, hb3⟩
      have HU := Lib.hid hU
      have HND := Lib.hid hnd
      have HX6 := Lib.hid (And.intro (HXD.out.1.below hb3 HXD.out.1.lt) (HXD.out.2.below hb3 HXD.out.2.lt))
      have HZ6 := Lib.hid (HZD.out.below hb3 HZD.out.lt)
      have HB6 := Lib.hid (HBD.out.trans (hb3.mono HBD.out.size))
      have HW6 := Lib.hid (HBS.out.trans (hb3.mono HBS.out.size))
      obtain ⟨A9, c9, e9⟩ := hU.shape
      subst e9
      clear hU hnd hb3
      go_wp2_with fail
      refine hK.out _ _ ?sr1_5_4 (fun hS => ?_)
      case sr1_5_4 => (exact HX6.out)
      clear hK K
      (try simp only [Act.put, List.setIfInBounds_toArray, List.set_cons_zero, List.set_cons_succ])
      refine wpAnyH_take (i := 5) (oi := ?o1_5_6) (v := ?v1_5_6) ?i1_5_6 (by kernel_rfl) (by kernel_rfl) (by kernel_rfl) (fun _ _ _ h => h) (Or.inl ⟨?g1_5_6, ?y1_5_6⟩) hS ?_
      case i1_5_6 => simp only [List.getElem?_toArray, List.getElem?_cons_succ, List.getElem?_cons_zero]; rfl
      case g1_5_6 => rfl
      case y1_5_6 => (intro w hSw; (go_simp <;> with_reducible rfl))
      (try simp only [Act.put, List.setIfInBounds_toArray, List.set_cons_zero, List.set_cons_succ])
      refine wpAnyH_ready (rs := [6]) (by kernel_rfl) (by simp) ?_
      refine (AllReadyH.cons (o := ?or1_7_6) ?ir1_7_6 (fun K hK => ?str1_7_6) AllReadyH.nil)
      case ir1_7_6 => simp only [List.getElem?_toArray, List.getElem?_cons_succ, List.getElem?_cons_zero]; rfl
      rw [if_pos (by rfl)]
      have HC3 := Lib.hid (HC.out.keep (wr' := w3) (fun g _ hl => HW6.out.block g hl))
      obtain ⟨A7, c7, hcl3, -⟩ := cop_kid HC3.out HG.out
      have fz0 : (w3).frozen? ⟨b, j * 6, none⟩ = false := cop_frozen HC3.out _
      have fq0 : w3.cell? ⟨b, j * 6, none⟩ = _ := hcl3 0 _ rfl
      have fz1 : (w3).frozen? ⟨b, j * 6 + 1, none⟩ = false := cop_frozen HC3.out _
      have fq1 : w3.cell? ⟨b, j * 6 + 1, none⟩ = _ := hcl3 1 _ rfl
      have fz2 : (w3).frozen? ⟨b, j * 6 + 2, none⟩ = false := cop_frozen HC3.out _
      have fq2 : w3.cell? ⟨b, j * 6 + 2, none⟩ = _ := hcl3 2 _ rfl
      have fz3 : (w3).frozen? ⟨b, j * 6 + 3, none⟩ = false := cop_frozen HC3.out _
      have fq3 : w3.cell? ⟨b, j * 6 + 3, none⟩ = _ := hcl3 3 _ rfl
      have fz4 : (w3).frozen? ⟨b, j * 6 + 4, none⟩ = false := cop_frozen HC3.out _
      have fq4 : w3.cell? ⟨b, j * 6 + 4, none⟩ = _ := hcl3 4 _ rfl
      have fz5 : (w3).frozen? ⟨b, j * 6 + 5, none⟩ = false := cop_frozen HC3.out _
      have fq5 : w3.cell? ⟨b, j * 6 + 5, none⟩ = _ := hcl3 5 _ rfl
      clear hcl3
      go_simp
      refine hK.out _ _ ?sr1_7_6 (fun hS => ?_)
      case sr1_7_6 => (exact ⟨(set6o_other (w := w3) (b := b) (by have := HBV.out; omega)).trans HX6.out.1, (set6o_other (w := w3) (b := b) (by have := HBV.out; have := HM.out; omega)).trans HX6.out.2⟩)
      clear hK K
      (try simp only [Act.put, List.setIfInBounds_toArray, List.set_cons_zero, List.set_cons_succ])
      refine wpAnyH_done (by kernel_rfl) ?_ _
      refine NoPanic.normal ?_
      clear hS
      have HCN : Hid (CopI w w2.heap.size f (.slice (some ⟨b, 0, none⟩) f.len c1) (j + 1) (set6o w3 b (j * 6) (.string (txt a1.name)) (.string (txt a1.key)) (.int .i64 a1.kind) (.int .u64 (a1.num : Int)) (.string (txt a1.text)) (.slice A9 q.len c9))) := Lib.hid (cop_step HC.out HG.out HBr.out.size HW6.out HM.out HBV.out.2 HU.out HBS.out.size HND.out)
      have HXN : Hid (Blk (set6o w3 b (j * 6) (.string (txt a1.name)) (.string (txt a1.key)) (.int .i64 a1.kind) (.int .u64 (a1.num : Int)) (.string (txt a1.text)) (.slice A9 q.len c9)) w.heap.size 27 #[.string (txt a.name), .string (txt a.key), .int .i64 a.kind, .int .u64 (a.num : Int), .string (txt a.text), .slice (some ⟨b, 0, none⟩) f.len c1]) := Lib.hid ((set6o_other (w := w3) (b := b) (by have := HBV.out; omega)).trans HX6.out.1)
      have HZN : Hid (Blk (set6o w3 b (j * 6) (.string (txt a1.name)) (.string (txt a1.key)) (.int .i64 a1.kind) (.int .u64 (a1.num : Int)) (.string (txt a1.text)) (.slice A9 q.len c9)) (w.heap.size + 1) 27 #[.string ⟨#[]⟩, .string ⟨#[]⟩, .int .i64 0, .int .u64 0, .string ⟨#[]⟩, .slice none 0 0]) := Lib.hid ((set6o_other (w := w3) (b := b) (by have := HBV.out; omega)).trans HZ6.out)
      have HBN : Hid (Below w.heap.size w (set6o w3 b (j * 6) (.string (txt a1.name)) (.string (txt a1.key)) (.int .i64 a1.kind) (.int .u64 (a1.num : Int)) (.string (txt a1.text)) (.slice A9 q.len c9))) := Lib.hid (HB6.out.trans (set6o_below (by have := HBV.out; omega)))
      have HMN : Hid (w2.heap.size ≤ ((set6o w3 b (j * 6) (.string (txt a1.name)) (.string (txt a1.key)) (.int .i64 a1.kind) (.int .u64 (a1.num : Int)) (.string (txt a1.text)) (.slice A9 q.len c9))).heap.size) := Lib.hid (by rw [set6o_size]; have := HM.out; have := HW6.out.size; omega)
      go_wp2
      go_roundw
      case rel => exact ⟨j + 1, by omega, by go_num, HXN.out, HZN.out, HBN.out, HMN.out, HCN.out⟩
      case measure => simp [intOf]; omega
    · have i2 : ¬ (j : Int) < (f.len : Int) := by omega
      have HU : Hid (∃ F, OwnU wr w.heap.size (.slice A1 f.len c1) f F ∧ F.Nodup ∧ ∀ g, g ∈ F → w.heap.size + 2 ≤ g) := Lib.hid (by
        have h := HC.out
        rw [show j = f.len by omega] at h
        obtain ⟨F, h1, h2, h3⟩ := cop_end h (fun g hg => (HVB.out g hg).2)
        exact ⟨F, h1, h2, fun g hg => by
          rcases h3 g hg with h | h
          · exact (HVB.out g h).1
          · have := HMS.out; omega⟩)
      have p0 := (hX.cell 0).trans rfl
      have p1 := (hX.cell 1).trans rfl
      have p2 := (hX.cell 2).trans rfl
      have p3 := (hX.cell 3).trans rfl
      have p4 := (hX.cell 4).trans rfl
      have p5 := (hX.cell 5).trans rfl
      have fz0 : (wr).frozen? ⟨w.heap.size + 1, 0, none⟩ = false := hZ.frozen 0
      have fq0 := (hZ.cell 0).trans rfl
      have fz1 : (wr).frozen? ⟨w.heap.size + 1, 1, none⟩ = false := hZ.frozen 1
      have fq1 := (hZ.cell 1).trans rfl
      have fz2 : (wr).frozen? ⟨w.heap.size + 1, 2, none⟩ = false := hZ.frozen 2
      have fq2 := (hZ.cell 2).trans rfl
      have fz3 : (wr).frozen? ⟨w.heap.size + 1, 3, none⟩ = false := hZ.frozen 3
      have fq3 := (hZ.cell 3).trans rfl
      have fz4 : (wr).frozen? ⟨w.heap.size + 1, 4, none⟩ = false := hZ.frozen 4
      have fq4 := (hZ.cell 4).trans rfl
      have fz5 : (wr).frozen? ⟨w.heap.size + 1, 5, none⟩ = false := hZ.frozen 5
      have fq5 := (hZ.cell 5).trans rfl
      have HZ := Lib.hid hZ
      clear hX hZ hB hM
      go_wp2
      have HP : Hid (CopP a f w (.returned (.agg #[.string (txt a.name), .string (txt a.key), .int .i64 a.kind, .int .u64 (a.num : Int), .string (txt a.text), .slice A1 f.len c1])) (set6 wr (w.heap.size + 1) (.string (txt a.name)) (.string (txt a.key)) (.int .i64 a.kind) (.int .u64 (a.num : Int)) (.string (txt a.text)) (.slice A1 f.len c1))) := Lib.hid (by
        obtain ⟨F, h1, h2, h3⟩ := HU.out
        exact ⟨_, F, rfl, h1.keep (fun g hg => set6_other (by have := h3 g hg; omega)) (Nat.le_refl _), h2, HBr.out.trans (set6_below (by omega))⟩)
      refine bodyPost_ret (results_cell_row rfl _ _ (w.heap.size + 1) 27 _ (0, 0) _ rfl (HZ.out.set6 _ _ _ _ _ _) Try.underlying27 rfl (by kernel_rfl)) rfl ?_
      exact HP.out
theorem copy_any (f : NdF) : CopyP f := Fr.byKids copy_row f
end Go.Proofs.Ytgipnemcmiohlaa
namespace Go.Proofs.Ytgipnemcmiohlaa
open Go.RowKit
set_option linter.unusedSimpArgs false
set_option linter.unusedVariables false
theorem node_box {w : World} {g : Nat} {a : NdD} {f : NdF} {A : Option Addr} {c : Nat} (hb : Blk w g 27 #[.string (txt a.name), .string (txt a.key), .int .i64 a.kind, .int .u64 (a.num : Int), .string (txt a.text), .slice A f.len c]) (hr : RowT w.heap.size w (.slice A f.len c) f) : NodeAt w g 0 (a, f) :=
  ⟨hb.lt, A, c, fun j u hu => by rw [Nat.zero_add, hb.cell]; simpa using hu, hr⟩
set_option maxRecDepth 100000 in
set_option maxHeartbeats 2000000 in
theorem get_any (a : NdD) (f : NdF) (A : Option Addr) (c : Nat) (l : List Stp) (v : Value) (w : World) (hk : RowT w.heap.size w (.slice A f.len c) f) (hv : WayV w.heap.size w v l) (hf : f.size ≤ 1000000) (hll : l.length ≤ 1000000) :
    Calls Try.prog 20 #[.agg #[.string (txt a.name), .string (txt a.key), .int .i64 a.kind, .int .u64 (a.num : Int), .string (txt a.text), .slice A f.len c], v] w (TreP (GetX (a, f) l).1 (.bool (GetX (a, f) l).2) w) := by
  obtain ⟨h1, h2, h3, h4⟩ := get_boxes a f A c w (LieB.make hk)
  have hr0 : RowT ((w.alloc (.cells #[.string (txt a.name), .string (txt a.key), .int .i64 a.kind, .int .u64 (a.num : Int), .string (txt a.text), .slice A f.len c] 27)).alloc (.cells #[.string ⟨#[]⟩, .string ⟨#[]⟩, .int .i64 0, .int .u64 0, .string ⟨#[]⟩, .slice none 0 0] 27)).heap.size ((w.alloc (.cells #[.string (txt a.name), .string (txt a.key), .int .i64 a.kind, .int .u64 (a.num : Int), .string (txt a.text), .slice A f.len c] 27)).alloc (.cells #[.string ⟨#[]⟩, .string ⟨#[]⟩, .int .i64 0, .int .u64 0, .string ⟨#[]⟩, .slice none 0 0] 27)) (.slice A f.len c) f := hk.under h3 (Nat.le_refl _) h3.size
  have HA : Hid (Calls Try.prog 34 #[.pointer (some ⟨w.heap.size, 0, none⟩), v] ((w.alloc (.cells #[.string (txt a.name), .string (txt a.key), .int .i64 a.kind, .int .u64 (a.num : Int), .string (txt a.text), .slice A f.len c] 27)).alloc (.cells #[.string ⟨#[]⟩, .string ⟨#[]⟩, .int .i64 0, .int .u64 0, .string ⟨#[]⟩, .slice none 0 0] 27)) (AtP (a, f) l w.heap.size 0 ((w.alloc (.cells #[.string (txt a.name), .string (txt a.key), .int .i64 a.kind, .int .u64 (a.num : Int), .string (txt a.text), .slice A f.len c] 27)).alloc (.cells #[.string ⟨#[]⟩, .string ⟨#[]⟩, .int .i64 0, .int .u64 0, .string ⟨#[]⟩, .slice none 0 0] 27)))) := Lib.hid (at_any (a, f) l w.heap.size 0 v ((w.alloc (.cells #[.string (txt a.name), .string (txt a.key), .int .i64 a.kind, .int .u64 (a.num : Int), .string (txt a.text), .slice A f.len c] 27)).alloc (.cells #[.string ⟨#[]⟩, .string ⟨#[]⟩, .int .i64 0, .int .u64 0, .string ⟨#[]⟩, .slice none 0 0] 27)) (node_box h1 hr0) (hv.under h3 (Nat.le_refl _) h3.size) hf hll)
  have HZ0 := Lib.hid h2
  have HB0 := Lib.hid h3
  have HF := Lib.hid hf
  obtain ⟨B, m, rfl⟩ := hv.shape
  clear h1 h2 h3 h4 hr0 hk hv hf hll
  go_enter Try.func20, Try.ntmps20
  go_wp2_with fail
  refine HA.out.mono ?_
  rintro r w1 ⟨hb1, hcase⟩
  have HZ1 := Lib.hid (HZ0.out.below hb1 HZ0.out.lt)
  have HB1 := Lib.hid (HB0.out.trans (hb1.mono HB0.out.size))
  rcases hcase with ⟨hn, rfl⟩ | ⟨⟨ya, yf⟩, g', o', hy, rfl, hnd, -⟩
  · have HE : Hid (GetX (a, f) l = (noN, false)) := Lib.hid (by unfold GetX; rw [hn])
    clear hn hb1
    have fz0 : (w1).frozen? ⟨w.heap.size + 1, 0, none⟩ = false := HZ1.out.frozen 0
    have fq0 := (HZ1.out.cell 0).trans rfl
    have fz1 : (w1).frozen? ⟨w.heap.size + 1, 1, none⟩ = false := HZ1.out.frozen 1
    have fq1 := (HZ1.out.cell 1).trans rfl
    have fz2 : (w1).frozen? ⟨w.heap.size + 1, 2, none⟩ = false := HZ1.out.frozen 2
    have fq2 := (HZ1.out.cell 2).trans rfl
    have fz3 : (w1).frozen? ⟨w.heap.size + 1, 3, none⟩ = false := HZ1.out.frozen 3
    have fq3 := (HZ1.out.cell 3).trans rfl
    have fz4 : (w1).frozen? ⟨w.heap.size + 1, 4, none⟩ = false := HZ1.out.frozen 4
    have fq4 := (HZ1.out.cell 4).trans rfl
    have fz5 : (w1).frozen? ⟨w.heap.size + 1, 5, none⟩ = false := HZ1.out.frozen 5
    have fq5 := (HZ1.out.cell 5).trans rfl
    have RZ : Hid (Blk (set6 w1 (w.heap.size + 1) (.string ⟨#[]⟩) (.string ⟨#[]⟩) (.int .i64 0) (.int .u64 0) (.string ⟨#[]⟩) (.slice none 0 0)) (w.heap.size + 1) 27 #[.string ⟨#[]⟩, .string ⟨#[]⟩, .int .i64 0, .int .u64 0, .string ⟨#[]⟩, .slice none 0 0]) := Lib.hid (HZ1.out.set6 _ _ _ _ _ _)
    have HQ : Hid (TreP (GetX (a, f) l).1 (.bool (GetX (a, f) l).2) w (.returned (.tuple #[.agg #[.string ⟨#[]⟩, .string ⟨#[]⟩, .int .i64 0, .int .u64 0, .string ⟨#[]⟩, .slice none 0 0], .bool false])) (set6 w1 (w.heap.size + 1) (.string ⟨#[]⟩) (.string ⟨#[]⟩) (.int .i64 0) (.int .u64 0) (.string ⟨#[]⟩) (.slice none 0 0))) := Lib.hid
      (by rw [HE.out]; exact ⟨_, rfl, OwnU.new (a := zeroT) (k := .nil) ⟨[], [], rfl, OwnK.nil _ _ _ _, rfl, rfl⟩, HB1.out.trans (set6_below (by omega))⟩)
    go_wp2
    refine bodyPost_ret (res_ct9 rfl _ _ (w.heap.size + 1) 27 _ (0, 0) _ rfl RZ.out Try.underlying27 rfl (by kernel_rfl)) rfl ?_
    exact HQ.out
  · have HE : Hid (GetX (a, f) l = ((ya, yf), true)) := Lib.hid (by unfold GetX; rw [hy])
    have hys : yf.size ≤ 1000000 := by have := get_size l (a, f) (ya, yf) hy; have h8 := HF.out; unfold sizeX at this; simp only at this; omega
    obtain ⟨hgl, A1, c1, hcl, hr1⟩ := hnd.below hb1
    have HC1 : Hid (Calls Try.prog 28 #[.agg #[.string (txt ya.name), .string (txt ya.key), .int .i64 ya.kind, .int .u64 (ya.num : Int), .string (txt ya.text), .slice A1 yf.len c1]] w1 (CopP ya yf w1)) := Lib.hid (copy_any yf ya A1 c1 w1 hr1 hys)
    have s0 : w1.cell? ⟨g', o', none⟩ = _ := hcl 0 _ rfl
    have s1 : w1.cell? ⟨g', o' + 1, none⟩ = _ := hcl 1 _ rfl
    have s2 : w1.cell? ⟨g', o' + 2, none⟩ = _ := hcl 2 _ rfl
    have s3 : w1.cell? ⟨g', o' + 3, none⟩ = _ := hcl 3 _ rfl
    have s4 : w1.cell? ⟨g', o' + 4, none⟩ = _ := hcl 4 _ rfl
    have s5 : w1.cell? ⟨g', o' + 5, none⟩ = _ := hcl 5 _ rfl
    clear hy hnd hb1 hys hgl hcl hr1
    go_wp2_with fail
    refine HC1.out.mono ?_
    rintro r w2 ⟨v2, F, rfl, hU, hnd, hb2⟩
    have HZ2 := Lib.hid (HZ1.out.below hb2 HZ1.out.lt)
    have HB2 := Lib.hid (HB1.out.trans (hb2.mono HB1.out.size))
    obtain ⟨A2, c2, rfl⟩ := hU.shape
    have RZ : Hid (Blk (set6 w2 (w.heap.size + 1) (.string (txt ya.name)) (.string (txt ya.key)) (.int .i64 ya.kind) (.int .u64 (ya.num : Int)) (.string (txt ya.text)) (.slice A2 yf.len c2)) (w.heap.size + 1) 27 #[.string (txt ya.name), .string (txt ya.key), .int .i64 ya.kind, .int .u64 (ya.num : Int), .string (txt ya.text), .slice A2 yf.len c2]) := Lib.hid (HZ2.out.set6 _ _ _ _ _ _)
    have HQ : Hid (TreP (GetX (a, f) l).1 (.bool (GetX (a, f) l).2) w (.returned (.tuple #[.agg #[.string (txt ya.name), .string (txt ya.key), .int .i64 ya.kind, .int .u64 (ya.num : Int), .string (txt ya.text), .slice A2 yf.len c2], .bool true])) (set6 w2 (w.heap.size + 1) (.string (txt ya.name)) (.string (txt ya.key)) (.int .i64 ya.kind) (.int .u64 (ya.num : Int)) (.string (txt ya.text)) (.slice A2 yf.len c2))) := Lib.hid
      (by rw [HE.out]; exact ⟨_, rfl, OwnU.new (a := ya) (hU.keep (base' := w.heap.size) (fun g hg => set6_other (by have := (hU.fresh g hg).1; have := HZ1.out.lt; omega)) HB1.out.size), HB2.out.trans (set6_below (by omega))⟩)
    have fz0 : (w2).frozen? ⟨w.heap.size + 1, 0, none⟩ = false := HZ2.out.frozen 0
    have fq0 := (HZ2.out.cell 0).trans rfl
    have fz1 : (w2).frozen? ⟨w.heap.size + 1, 1, none⟩ = false := HZ2.out.frozen 1
    have fq1 := (HZ2.out.cell 1).trans rfl
    have fz2 : (w2).frozen? ⟨w.heap.size + 1, 2, none⟩ = false := HZ2.out.frozen 2
    have fq2 := (HZ2.out.cell 2).trans rfl
    have fz3 : (w2).frozen? ⟨w.heap.size + 1, 3, none⟩ = false := HZ2.out.frozen 3
    have fq3 := (HZ2.out.cell 3).trans rfl
    have fz4 : (w2).frozen? ⟨w.heap.size + 1, 4, none⟩ = false := HZ2.out.frozen 4
    have fq4 := (HZ2.out.cell 4).trans rfl
    have fz5 : (w2).frozen? ⟨w.heap.size + 1, 5, none⟩ = false := HZ2.out.frozen 5
    have fq5 := (HZ2.out.cell 5).trans rfl
    clear hU hnd hb2 s0 s1 s2 s3 s4 s5
    go_wp2
    refine bodyPost_ret (res_ct9 rfl _ _ (w.heap.size + 1) 27 _ (0, 0) _ rfl RZ.out Try.underlying27 rfl (by kernel_rfl)) rfl ?_
    exact HQ.out
theorem getT (W0 : World) : GetTC W0 := by
  intro x l cs v w hx hv hf hl _
  obtain ⟨A, c, rfl, hk⟩ := hx.shape
  exact get_any x.1 x.2 A c l v w hk hv hf hl
end Go.Proofs.Ytgipnemcmiohlaa
namespace Go.Proofs.Ytgipnemcmiohlaa
open Go.RowKit
set_option linter.unusedSimpArgs false
set_option linter.unusedVariables false
theorem run_copy_k {P : Program} (w : World) (dT sT ty elem : TypeId) (g o dLen dCap : Nat) (a : Addr) (sLen sCap : Nat) (cur : Array Value) (t : TypeId) (cs : List Value) (n k : Nat)
    (hu : P.underlying dT = some (.slice elem)) (hs : (P.info? elem).map (·.size) = some k)
    (hg : w.heap[g]? = some (.cells cur t (0, 0))) (hn : Nat.min sLen dLen = n) (hl : cs.length = n * k)
    (hsrc : ∀ j v, cs[j]? = some v → w.cell? (a.add j) = some v) (hfit : o + cs.length ≤ cur.size) (h1 : ∀ v ∈ cs, v.oneCell' = true) :
    (Builtin.copy_ #[dT, sT] ty #[.slice (some ⟨g, o, none⟩) dLen dCap, .slice (some a) sLen sCap]).run P w =
      .ok (goInt n) (w.setRow g (cur.toList.take o ++ cs ++ cur.toList.drop (o + cs.length)).toArray) := by
  have hld := run_loadCells_list (P := P) w a cs hsrc
  have hst := run_storeCells_at P g o t cs 0 cur w hg (by simpa using hfit) h1
  rw [hl] at hld
  cases hq : P.info? elem with
  | none => simp [hq] at hs
  | some i =>
    have hi : i.size = k := by simpa [hq] using hs
    simp [Builtin.copy_, run_underlying hu, Builtin.lenOf, Builtin.firstCells, sizeOf, typeInfo, hq, hi, hn, hld, hst]
theorem wp_copy9 {P : Program} (w : World) {o : Oper} {a : Act} {K : Act → World → Prop} {Q : Exit → Act → World → Prop} (d s : Operand) (t t' : TypeId)
    (ho : o.op = .call { callee := .builtin .copy, args := #[d, s], argTypes := #[t, t'] }) (v u : Value) (hd : a.eval d = v) (hs : a.eval s = u) {v' : Value} {w' : World}
    (hr : (Builtin.copy_ #[t, t'] o.type #[v, u]).run P w = .ok v' w') (h : K (a.put o.dst v') w') : o.wp P a w K Q := by
  unfold Oper.wp execOp
  simp only [ho, resolve, invoke, builtin, Sem.run_bind, Sem.run_pure, Result.andThen_ok, List.map_toArray, List.map_cons, List.map_nil, hd, hs, hr]
  exact h
theorem wpList_copy9 {P : Program} (w : World) {ops : Array Oper} {rest : List Oper} {o : Oper} {a : Act} {Q : Exit → Act → World → Prop} (hgd : o.guard = none) (d s : Operand) (t t' : TypeId)
    (ho : o.op = .call { callee := .builtin .copy, args := #[d, s], argTypes := #[t, t'] }) (v u : Value) (hd : a.eval d = v) (hs : a.eval s = u) {v' : Value} {w' : World}
    (hr : (Builtin.copy_ #[t, t'] o.type #[v, u]).run P w = .ok v' w') (h : wpList P ops Q rest (a.put o.dst v') w') : wpList P ops Q (o :: rest) a w :=
  wpList_plain hgd fun _ hK => wp_copy9 w d s t t' ho v u hd hs hr (hK _ _ h)
/-- A row's cells spliced. -/
def spl (l : List Value) (o : Nat) (cs : List Value) : List Value := l.take o ++ cs ++ l.drop (o + cs.length)
theorem spl_len {l cs : List Value} {o : Nat} (h : o + cs.length ≤ l.length) : (spl l o cs).length = l.length := by
  unfold spl
  simp only [List.length_append, List.length_take, List.length_drop]
  omega
theorem spl_take {l cs : List Value} {o : Nat} (h : o ≤ l.length) : (spl l o cs).take (o + cs.length) = l.take o ++ cs := by
  unfold spl
  have h1 : (l.take o ++ cs).length = o + cs.length := by rw [List.length_append, List.length_take]; omega
  rw [← h1, List.take_left]
theorem spl_front {l cs : List Value} {o m : Nat} (h : o ≤ l.length) (hm : m ≤ o) : (spl l o cs).take m = l.take m := by
  unfold spl
  rw [List.append_assoc, List.take_append_of_le_length (by rw [List.length_take]; omega), List.take_take]
  congr 1
  omega
theorem spl_drop {l cs : List Value} {o : Nat} (h : o ≤ l.length) : (spl l o cs).drop o = cs ++ l.drop (o + cs.length) := by
  unfold spl
  have h1 : (l.take o).length = o := by rw [List.length_take]; omega
  have h2 : List.drop (l.take o).length (l.take o ++ (cs ++ l.drop (o + cs.length))) = cs ++ l.drop (o + cs.length) := List.drop_left
  rw [h1] at h2
  rw [List.append_assoc]
  exact h2
/-- Room made for one ahead: the cells behind moved up, then it laid. -/
theorem spl_two {cur ys : List Value} {o k m : Nat} (hy : ys.length = k) (ho : o ≤ m) (hc : m + k ≤ cur.length) : (spl (spl cur (o + k) ((cur.take m).drop o)) o ys).take (m + k) = cur.take o ++ ys ++ (cur.take m).drop o := by
  have hD : ((cur.take m).drop o).length = m - o := by rw [List.length_drop, List.length_take]; omega
  have h1 : (spl cur (o + k) ((cur.take m).drop o)).length = cur.length := spl_len (by omega)
  have e : m + k = (o + ys.length) + (m - o) := by omega
  have h2 := spl_take (l := spl cur (o + k) ((cur.take m).drop o)) (cs := ys) (o := o) (by omega)
  have h3 : spl (spl cur (o + k) ((cur.take m).drop o)) o ys = ((spl cur (o + k) ((cur.take m).drop o)).take o ++ ys) ++ (spl cur (o + k) ((cur.take m).drop o)).drop (o + ys.length) := rfl
  have h4 : ((spl cur (o + k) ((cur.take m).drop o)).take o ++ ys).length = o + ys.length := by rw [List.length_append, List.length_take]; omega
  rw [h3, e, ← h4, List.take_length_add_append, h4, hy, spl_drop (by omega), spl_front (by omega) (by omega)]
  congr 1
  rw [← hD, List.take_left]
theorem spl_new {A Z ys D : List Value} {o k : Nat} (hA : A.length = o) (hy : ys.length = k) (hZ : k + D.length ≤ Z.length) : (spl (spl (A ++ Z) o ys) (o + k) D).take (o + k + D.length) = A ++ ys ++ D := by
  have h1 : (spl (A ++ Z) o ys).length = (A ++ Z).length := spl_len (by rw [List.length_append]; omega)
  rw [List.length_append] at h1
  rw [spl_take (by omega)]
  congr 1
  rw [show o + k = o + ys.length by omega, spl_take (by rw [List.length_append]; omega), ← hA, List.take_left]
/-- What an insertion leaves. -/
def InsP9 (base : Nat) (v : Value) (n : Nat) (xs : List Value) (w : World) (r : Ending) (w' : World) : Prop :=
  ∃ v', r = .returned v' ∧ OwnK 27 6 w' base v' (n + 1) xs ∧ w.grownBy w' v.ownBlock ∧ (v'.ownBlock = v.ownBlock ∨ ∃ g, v'.ownBlock = some g ∧ w.heap.size ≤ g)
theorem InsP9.app {base n : Nat} {v v' : Value} {xs : List Value} {w w' : World} (h : AppK 27 6 w base v (n + 1) xs v' w') : InsP9 base v n xs w (.returned v') w' :=
  ⟨v', rfl, h.1, h.2.1, by rcases h.2.2.1 with h | h; exact .inl h; exact .inr ⟨_, h, Nat.le_refl _⟩⟩
theorem grown_setRow {w w' : World} {row : Option Nat} {g : Nat} (h : w.grownBy w' row) (hg : some g = row ∨ w.heap.size ≤ g) (cs : Array Value) : w.grownBy (w'.setRow g cs) row :=
  ⟨h.os, h.tape, h.output, by simpa using h.size, fun k hk hne => (setRow_other w' g k cs (fun e => by subst e; rcases hg with e | e; exact hne e; omega)).trans (h.block k hk hne)⟩
theorem zeroC_len (z : Value) (h : z.cells.size = 6) (n : Nat) : (Builtin.zeroCells z.cells n).size = n * 6 := by
  simp [Builtin.zeroCells, h]
theorem zeroN : (Value.agg #[.string ⟨#[]⟩, .string ⟨#[]⟩, .int .i64 0, .int .u64 0, .string ⟨#[]⟩, .slice none 0 0]).cells.size = 6 := rfl
set_option maxRecDepth 100000 in
set_option maxHeartbeats 2000000 in
theorem ins_nil (g base : Nat) (ys : List Value) (w : World) (hblk : Blk w g 27 ys.toArray) (hys : ys.length = 6) (hone : ∀ u ∈ ys, u.oneCell' = true) (hb : base ≤ w.heap.size) :
    Calls Try.prog 48 #[.slice none 0 0, .int .i64 0, .slice (some ⟨g, 0, none⟩) 1 1] w (InsP9 base (.slice none 0 0) 0 ys w) := by
  have HG := Lib.hid hblk
  have HY := Lib.hid hys
  have HN := Lib.hid hone
  have HO : Hid (OwnK 27 6 w base (.slice none 0 0) 0 []) := Lib.hid (OwnK.nil _ _ _ _)
  clear hblk hys hone
  go_enter Try.func48, Try.ntmps48
  go_wp2_with (at_builtin; refine wpList_append_k (P := Try.prog) (ts := 25) Try.underlying25 Try.cellsNd zeroN (by omega) rfl _ _ rfl rfl base (.slice none 0 0) 0 [] rfl HO.out g rfl ys HG.out HY.out HN.out (by omega) (by omega) hb ?_; intro v' w' hap)
  go_ret
  exact InsP9.app hap
set_option maxRecDepth 100000 in
set_option maxHeartbeats 2000000 in
theorem ins_end (b c n g base : Nat) (xs ys : List Value) (w : World) (hown : OwnK 27 6 w base (.slice (some ⟨b, 0, none⟩) n c) n xs) (hblk : Blk w g 27 ys.toArray) (hys : ys.length = 6) (hone : ∀ u ∈ ys, u.oneCell' = true) (hn : n ≤ 1000000) (hb : base ≤ w.heap.size) :
    Calls Try.prog 48 #[.slice (some ⟨b, 0, none⟩) n c, .int .i64 (n : Int), .slice (some ⟨g, 0, none⟩) 1 1] w (InsP9 base (.slice (some ⟨b, 0, none⟩) n c) n (xs ++ ys) w) := by
  have hnc : n ≤ c := by
    rcases hown.2 with ⟨h, _⟩ | ⟨g', cap, cur, h, _, _, hnc, _⟩
    · cases h
    · injection h with _ _ h3; rw [h3]; exact hnc
  have HO := Lib.hid hown
  have HG := Lib.hid hblk
  have HY := Lib.hid hys
  have HN := Lib.hid hone
  have i0 : (0 : Int) ≤ (n : Int) := by omega
  have i1 : (n : Int) ≤ 1000000 := by omega
  clear hown hblk hys hone
  by_cases hcn : c = n
  · subst hcn
    clear hnc
    go_enter Try.func48, Try.ntmps48
    go_wp2_with (at_builtin; refine wpList_append_k (P := Try.prog) (ts := 25) Try.underlying25 Try.cellsNd zeroN (by omega) rfl _ _ rfl rfl base (.slice (some ⟨b, 0, none⟩) c c) c xs rfl HO.out g rfl ys HG.out HY.out HN.out (by omega) (by omega) hb ?_; intro v' w' hap)
    go_ret
    exact InsP9.app hap
  · have hlt : n < c := by omega
    clear hcn
    go_enter Try.func48, Try.ntmps48
    go_wp2_with (at_builtin; refine wpList_append_k (P := Try.prog) (ts := 25) Try.underlying25 Try.cellsNd zeroN (by omega) rfl _ _ rfl rfl base (.slice (some ⟨b, 0, none⟩) n c) n xs rfl HO.out g rfl ys HG.out HY.out HN.out (by omega) (by omega) hb ?_; intro v' w' hap)
    go_ret
    exact InsP9.app hap
theorem row_is {w : World} {base b n c : Nat} {xs : List Value} (h : OwnK 27 6 w base (.slice (some ⟨b, 0, none⟩) n c) n xs) : ∃ cur, Blk w b 27 cur ∧ n ≤ c ∧ c ≤ maxLen ∧ cur.size = c * 6 ∧ cur.toList.take (n * 6) = xs ∧ base ≤ b := by
  rcases h.2 with ⟨h, _⟩ | ⟨g', cap, cur, h, h1, h2, h3, h4, h5, h6⟩
  · cases h
  · injection h with e1 e2 e3
    injection e1 with e1
    injection e1 with e1
    subst e1 e3
    exact ⟨cur, h2, h3, h4, h5, h6, h1⟩
theorem add_lit9 (g o i : Nat) : (⟨g, o, none⟩ : Addr).add i = ⟨g, o + i, none⟩ := by unfold Addr.add; split <;> simp_all
theorem shape_blk {w : World} {g : Nat} {t : TypeId} {cs : Array Value} (h : Blk w g t cs) : w.shape? g = some (t, cs.size) := by
  unfold Blk at h
  simp [World.shape?, h]
theorem sizeN (w : World) : (Go.sizeOf 27).run Try.prog w = .ok 6 w := by
  have h := Try.cellsNd
  cases hq : Try.prog.info? 27 with
  | none => rw [hq] at h; cases h
  | some i =>
    rw [hq] at h
    simp at h
    simp [Go.sizeOf, typeInfo, hq, h.2.1]
set_option maxRecDepth 100000 in
set_option maxHeartbeats 4000000 in
theorem ins_room (b c n i g base : Nat) (xs ys : List Value) (w : World) (hown : OwnK 27 6 w base (.slice (some ⟨b, 0, none⟩) n c) n xs) (hox : ∀ u ∈ xs, u.oneCell' = true) (hblk : Blk w g 27 ys.toArray) (hys : ys.length = 6) (hone : ∀ u ∈ ys, u.oneCell' = true) (hn : n ≤ 1000000) (hb : base ≤ w.heap.size) (hgb : g ≠ b) (hi : i < n) (hroom : n < c) :
    Calls Try.prog 48 #[.slice (some ⟨b, 0, none⟩) n c, .int .i64 (i : Int), .slice (some ⟨g, 0, none⟩) 1 1] w (InsP9 base (.slice (some ⟨b, 0, none⟩) n c) n (xs.take (i * 6) ++ ys ++ xs.drop (i * 6)) w) := by
  obtain ⟨cur, hbk, hnc, hcm, hcs, htk, hbb⟩ := row_is hown
  have hcl : cur.toList.length = c * 6 := by simpa using hcs
  have hD : (xs.drop (i * 6)).length = (n - i) * 6 := by rw [List.length_drop, hown.1]; omega
  have hov : Hid (∀ lb cb, (callFunc 54 #[.slice (some ⟨g, 0, none⟩) 1 1, .slice (some ⟨b, (i + 1) * 6, none⟩) lb cb]).run Try.prog w = .ok (.value (.bool false)) w) := Lib.hid (fun lb cb => by
    rw [run_callFunc_extern Try.func54 (by kernel_rfl) (by kernel_rfl) (by kernel_rfl) (e := Extern.SlicesOverlaps.overlaps #[25, 25] #[4]) (by kernel_rfl),
      Lib.run_overlaps_apart w 25 4 27 Try.underlying25 6 (fun w => sizeN w) ⟨g, 0, none⟩ ⟨b, (i + 1) * 6, none⟩ 1 1 lb cb hgb 27 27 6 (c * 6) (by rw [shape_blk hblk]; simp [hys]) (by rw [shape_blk hbk, hcs]) (by omega) (hblk.frozen 0) (hblk.frozen 6)]
    rfl)
  have hrun1 : Hid (∀ ty, (Builtin.copy_ #[25, 25] ty #[.slice (some ⟨b, (i + 1) * 6, none⟩) (n - i) (c - (i + 1)), .slice (some ⟨b, i * 6, none⟩) (n + 1 - i) (c - i)]).run Try.prog w.drew = .ok (goInt ((n - i : Nat) : Int)) (w.drew.setRow b (spl cur.toList ((i + 1) * 6) (xs.drop (i * 6))).toArray)) := Lib.hid (fun ty =>
    run_copy_k w.drew 25 25 ty 27 b ((i + 1) * 6) (n - i) (c - (i + 1)) ⟨b, i * 6, none⟩ (n + 1 - i) (c - i) cur 27 (xs.drop (i * 6)) (n - i) 6 Try.underlying25 (by kernel_rfl) hbk (by simp only [Nat.min_def]; split <;> omega) hD
      (fun j v hj => by
        rw [add_lit9]
        have hj2 : j < (n - i) * 6 := by rw [← hD]; exact (List.getElem?_eq_some_iff.1 hj).1
        show w.cell? _ = _
        rw [hbk.cell, ← Array.getElem?_toList]
        rw [List.getElem?_drop, ← htk, List.getElem?_take] at hj
        rw [if_pos (by omega)] at hj
        exact hj)
      (by rw [hD, hcs]; omega) (fun v hv => hox v (List.mem_of_mem_drop hv)))
  obtain ⟨W1, hW1⟩ : ∃ W1, W1 = w.drew.setRow b (spl cur.toList ((i + 1) * 6) (xs.drop (i * 6))).toArray := ⟨_, rfl⟩
  have hb1 : Blk W1 b 27 (spl cur.toList ((i + 1) * 6) (xs.drop (i * 6))).toArray := by rw [hW1]; exact setRow_heap w.drew b cur _ 27 (0, 0) hbk
  have hg1 : Blk W1 g 27 ys.toArray := by rw [hW1]; exact (setRow_other w.drew b g _ hgb).trans hblk
  have hl1 : (spl cur.toList ((i + 1) * 6) (xs.drop (i * 6))).length = c * 6 := by rw [spl_len (by rw [hD, hcl]; omega), hcl]
  have hrun2 : Hid (∀ ty, (Builtin.copy_ #[25, 25] ty #[.slice (some ⟨b, i * 6, none⟩) (n + 1 - i) (c - i), .slice (some ⟨g, 0, none⟩) 1 1]).run Try.prog W1 = .ok (goInt ((1 : Nat) : Int)) (W1.setRow b (spl (spl cur.toList ((i + 1) * 6) (xs.drop (i * 6))) (i * 6) ys).toArray)) := Lib.hid (fun ty => by
    have h := run_copy_k W1 25 25 ty 27 b (i * 6) (n + 1 - i) (c - i) ⟨g, 0, none⟩ 1 1 _ 27 ys 1 6 Try.underlying25 (by kernel_rfl) hb1 (by simp only [Nat.min_def]; split <;> omega) (by omega)
      (fun j v hj => by
        rw [add_lit9, hg1.cell, Nat.zero_add]
        simpa using hj)
      (by rw [hys]; simp only [List.size_toArray]; rw [hl1]; omega) hone
    simpa [spl] using h)
  have HP : Hid (InsP9 base (.slice (some ⟨b, 0, none⟩) n c) n (xs.take (i * 6) ++ ys ++ xs.drop (i * 6)) w (.returned (.slice (some ⟨b, 0, none⟩) (n + 1) c)) (W1.setRow b (spl (spl cur.toList ((i + 1) * 6) (xs.drop (i * 6))) (i * 6) ys).toArray)) := Lib.hid (by
    have hgr : w.grownBy W1 (some b) := by
      rw [hW1]
      have h0 : w.grownBy w.drew (some b) := ⟨rfl, rfl, rfl, Nat.le_refl _, fun _ _ _ => rfl⟩
      exact grown_setRow h0 (.inl rfl) _
    refine ⟨_, rfl, ⟨?_, .inr ⟨b, c, _, rfl, hbb, setRow_heap W1 b _ _ 27 (0, 0) hb1, by omega, hcm, ?_, ?_⟩⟩, grown_setRow hgr (.inl rfl) _, .inl rfl⟩
    · rw [List.length_append, List.length_append, List.length_take, hD, hys, hown.1]; omega
    · simp only [List.size_toArray]
      rw [spl_len (by rw [hl1]; omega), hl1]
    · have h := spl_two (cur := cur.toList) (ys := ys) (o := i * 6) (k := 6) (m := n * 6) hys (by omega) (by rw [hcl]; omega)
      rw [htk, show i * 6 + 6 = (i + 1) * 6 by omega, show n * 6 + 6 = (n + 1) * 6 by omega] at h
      rw [show List.take ((n + 1) * 6) (spl (spl cur.toList ((i + 1) * 6) (xs.drop (i * 6))) (i * 6) ys).toArray.toList = _ from h]
      congr 2
      rw [← htk, List.take_take]
      congr 1
      omega)
  rw [← hW1] at hrun1
  have hc47 : (c : Int) ≤ 9223372036854775807 := by unfold maxLen at hcm; omega
  have i0 : (0 : Int) ≤ (i : Int) := by omega
  have i1 : (i : Int) < (n : Int) := by omega
  have i2 : (n : Int) ≤ 1000000 := by omega
  have i3 : (n : Int) < (c : Int) := by omega
  have i4 : ((n : Int) == (i : Int)) = false := by rw [beq_eq_false_iff_ne]; omega
  have i5 : ((i : Int) == (n : Int)) = false := by rw [beq_eq_false_iff_ne]; omega
  have i6 : (i == n) = false := by rw [beq_eq_false_iff_ne]; omega
  have i7 : ¬ (c : Int) < (n : Int) + 1 := by omega
  have i8 : (i : Int) + 1 < (c : Int) := by omega
  have i9 : ¬ c = i + 1 := by omega
  have i10 : ¬ c = i := by omega
  clear hown hox hblk hys hone hbk hcs htk hbb hcl hD hb1 hg1 hl1 hW1 hcm
  obtain ⟨R, hR⟩ : ∃ R, R = xs.take (i * 6) ++ ys ++ xs.drop (i * 6) := ⟨_, rfl⟩
  rw [← hR] at HP ⊢
  clear hR
  go_enter Try.func48, Try.ntmps48
  go_wp2_with fail
  rw [hov.out _ _]
  (try simp only [Result.andThen])
  rw [Oper.upon_value]
  go_wp2_with fail
  have jw : IntKind.i64.wrap ((i : Int) + 1) = (i : Int) + 1 := Go.IntWalk.i64_in _ (by omega)
  have jn : ((i : Int) + 1).toNat = i + 1 := by omega
  have JW := Lib.hid (And.intro jw jn)
  clear jw jn
  refine wp_region_noPanic ?_
  refine wp_region_held_drew (S := fun _ => True) (by kernel_rfl) trivial (fun hS => ?_)
  refine wpAnyH_take (i := 0) (oi := ?o1_0_1) (v := ?v1_0_1) ?i1_0_1 (by kernel_rfl) (by kernel_rfl) (by kernel_rfl) (fun _ _ _ h => h) (Or.inl ⟨?g1_0_1, ?y1_0_1⟩) hS ?_
  case i1_0_1 => simp only [List.getElem?_toArray, List.getElem?_cons_succ, List.getElem?_cons_zero]; rfl
  case g1_0_1 => rfl
  case y1_0_1 => (intro w hSw; (go_simp <;> with_reducible rfl))
  (try simp only [Act.put, List.setIfInBounds_toArray, List.set_cons_zero, List.set_cons_succ])
  refine wpAnyH_take (i := 1) (oi := ?o1_1_2) (v := ?v1_1_2) ?i1_1_2 (by kernel_rfl) (by kernel_rfl) (by kernel_rfl) (fun _ _ _ h => h) (Or.inl ⟨?g1_1_2, ?y1_1_2⟩) hS ?_
  case i1_1_2 => simp only [List.getElem?_toArray, List.getElem?_cons_succ, List.getElem?_cons_zero]; rfl
  case g1_1_2 => rfl
  case y1_1_2 => (intro w hSw; (go_simp <;> with_reducible rfl))
  (try simp only [Act.put, List.setIfInBounds_toArray, List.set_cons_zero, List.set_cons_succ])
  refine wpAnyH_take (i := 2) (oi := ?o1_2_3) (v := ?v1_2_3) ?i1_2_3 (by kernel_rfl) (by kernel_rfl) (by kernel_rfl) (fun _ _ _ h => h) (Or.inl ⟨?g1_2_3, ?y1_2_3⟩) hS ?_
  case i1_2_3 => simp only [List.getElem?_toArray, List.getElem?_cons_succ, List.getElem?_cons_zero]; rfl
  case g1_2_3 => rfl
  case y1_2_3 => (intro w hSw; (go_simp <;> with_reducible rfl))
  (try simp only [Act.put, List.setIfInBounds_toArray, List.set_cons_zero, List.set_cons_succ])
  refine wpAnyH_take (i := 3) (oi := ?o1_3_4) (v := ?v1_3_4) ?i1_3_4 (by kernel_rfl) (by kernel_rfl) (by kernel_rfl) (fun _ _ _ h => h) (Or.inl ⟨?g1_3_4, ?y1_3_4⟩) hS ?_
  case i1_3_4 => simp only [List.getElem?_toArray, List.getElem?_cons_succ, List.getElem?_cons_zero]; rfl
  case g1_3_4 => rfl
  case y1_3_4 => (intro w hSw; have jw := JW.out.1; (go_simp <;> with_reducible rfl))
  (try simp only [Act.put, List.setIfInBounds_toArray, List.set_cons_zero, List.set_cons_succ])
  refine wpAnyH_take (i := 4) (oi := ?o1_4_5) (v := ?v1_4_5) ?i1_4_5 (by kernel_rfl) (by kernel_rfl) (by kernel_rfl) (fun _ _ _ h => h) (Or.inl ⟨?g1_4_5, ?y1_4_5⟩) hS ?_
  case i1_4_5 => simp only [List.getElem?_toArray, List.getElem?_cons_succ, List.getElem?_cons_zero]; rfl
  case g1_4_5 => rfl
  case y1_4_5 => (intro w hSw; have jn := JW.out.2; have k1 : (0 : Int) ≤ (i : Int) + 1 := (by omega); have k2 : i ≤ n := (by omega); (go_simp <;> with_reducible rfl))
  (try simp only [Act.put, List.setIfInBounds_toArray, List.set_cons_zero, List.set_cons_succ])
  refine wpAnyH_take (i := 5) (oi := ?o1_5_6) (v := ?v1_5_6) ?i1_5_6 (by kernel_rfl) (by kernel_rfl) (by kernel_rfl) (fun _ _ _ h => h) (Or.inl ⟨?g1_5_6, ?y1_5_6⟩) hS ?_
  case i1_5_6 => simp only [List.getElem?_toArray, List.getElem?_cons_succ, List.getElem?_cons_zero]; rfl
  case g1_5_6 => rfl
  case y1_5_6 => (intro w hSw; (go_simp <;> with_reducible rfl))
  (try simp only [Act.put, List.setIfInBounds_toArray, List.set_cons_zero, List.set_cons_succ])
  refine wpAnyH_take (i := 6) (oi := ?o1_6_7) (v := ?v1_6_7) ?i1_6_7 (by kernel_rfl) (by kernel_rfl) (by kernel_rfl) (fun _ _ _ h => h) (Or.inl ⟨?g1_6_7, ?y1_6_7⟩) hS ?_
  case i1_6_7 => simp only [List.getElem?_toArray, List.getElem?_cons_succ, List.getElem?_cons_zero]; rfl
  case g1_6_7 => rfl
  case y1_6_7 => (intro w hSw; (go_simp <;> with_reducible rfl))
  (try simp only [Act.put, List.setIfInBounds_toArray, List.set_cons_zero, List.set_cons_succ])
  refine wpAnyH_take (i := 7) (oi := ?o1_7_8) (v := ?v1_7_8) ?i1_7_8 (by kernel_rfl) (by kernel_rfl) (by kernel_rfl) (fun _ _ _ h => h) (Or.inl ⟨?g1_7_8, ?y1_7_8⟩) hS ?_
  case i1_7_8 => simp only [List.getElem?_toArray, List.getElem?_cons_succ, List.getElem?_cons_zero]; rfl
  case g1_7_8 => rfl
  case y1_7_8 => (intro w hSw; have k3 : (i : Int) ≤ (n : Int) + 1 := (by omega); (go_simp <;> with_reducible rfl))
  (try simp only [Act.put, List.setIfInBounds_toArray, List.set_cons_zero, List.set_cons_succ])
  refine wpAnyH_ready (rs := [8]) (by kernel_rfl) (by simp) ?_
  refine (AllReadyH.cons (o := ?or1_9_8) ?ir1_9_8 (fun K hK => ?str1_9_8) AllReadyH.nil)
  case ir1_9_8 => simp only [List.getElem?_toArray, List.getElem?_cons_succ, List.getElem?_cons_zero]; rfl
  rw [if_pos (by rfl)]
  refine wp_copy9 _ (.tmp 73) (.tmp 76) 25 25 rfl _ _ rfl rfl (hrun1.out _) ?_
  refine hK.out _ _ ?sr1_9_8 (fun hS => ?_)
  case sr1_9_8 => (exact hS)
  clear hK K
  (try simp only [Act.put, List.setIfInBounds_toArray, List.set_cons_zero, List.set_cons_succ])
  refine wpAnyH_done (by kernel_rfl) ?_ _
  refine NoPanic.normal ?_
  clear hS
  go_wp2_with (with_reducible refine wpList_copy9 _ rfl (.tmp 80) (.tmp 81) 25 25 rfl _ _ rfl rfl (hrun2.out _) ?_)
  go_ret
  exact HP.out
set_option maxRecDepth 100000 in
set_option maxHeartbeats 4000000 in
theorem ins_full (b n i g base : Nat) (xs ys : List Value) (w : World) (hown : OwnK 27 6 w base (.slice (some ⟨b, 0, none⟩) n n) n xs) (hox : ∀ u ∈ xs, u.oneCell' = true) (hblk : Blk w g 27 ys.toArray) (hys : ys.length = 6) (hone : ∀ u ∈ ys, u.oneCell' = true) (hn : n ≤ 1000000) (hb : base ≤ w.heap.size) (hi : i < n) :
    Calls Try.prog 48 #[.slice (some ⟨b, 0, none⟩) n n, .int .i64 (i : Int), .slice (some ⟨g, 0, none⟩) 1 1] w (InsP9 base (.slice (some ⟨b, 0, none⟩) n n) n (xs.take (i * 6) ++ ys ++ xs.drop (i * 6)) w) := by
  obtain ⟨cur, hbk, hnc, hcm, hcs, htk, hbb⟩ := row_is hown
  have hxl : xs.length = n * 6 := hown.1
  have hD : (xs.drop (i * 6)).length = (n - i) * 6 := by rw [List.length_drop, hxl]; omega
  have hA : (xs.take (i * 6)).length = i * 6 := by rw [List.length_take, hxl]; omega
  obtain ⟨i0, hi0, hz0, hzs, hzb⟩ := info_parts Try.cellsNd
  have hxc : ∀ j v, xs[j]? = some v → w.cell? ⟨b, j, none⟩ = some v := fun j v hj => by
    rw [hbk.cell, ← Array.getElem?_toList]
    rw [← htk, List.getElem?_take] at hj
    split at hj
    · exact hj
    · cases hj
  have hold : (Builtin.firstCells i0.size i (.slice (some ⟨b, 0, none⟩) i n)).run Try.prog w.drew = .ok (xs.take (i * 6)).toArray w.drew := by
    rw [hzs]
    exact run_firstCells_some w.drew 6 i ⟨b, 0, none⟩ i n (xs.take (i * 6)) hA (fun j v hj => by
      rw [add_lit9, Nat.zero_add]
      rw [List.getElem?_take] at hj
      split at hj
      · exact hxc j v hj
      · cases hj)
  have hik : i + (n + 1 - i) = n + 1 := by omega
  obtain ⟨G, hG⟩ : ∃ G, G = grownCap w (n + 1) n 27 := ⟨_, rfl⟩
  obtain ⟨z, hz⟩ : ∃ z : Value, z = .agg #[.string ⟨#[]⟩, .string ⟨#[]⟩, .int .i64 0, .int .u64 0, .string ⟨#[]⟩, .slice none 0 0] := ⟨_, rfl⟩
  have hz6 : z.cells.size = 6 := by rw [hz]; rfl
  obtain ⟨Z, hZ⟩ : ∃ Z : List Value, Z = (Builtin.zeroCells z.cells (n + 1 - i)).toList ++ (Builtin.zeroCells z.cells (G - (n + 1))).toList := ⟨_, rfl⟩
  have hGn : n + 1 ≤ G := by rw [hG]; exact grownCap_ge _ _ _ _
  have hGm : G ≤ maxLen := by rw [hG]; exact grownCap_le_maxLen _ _ _ _ (by unfold maxLen; omega)
  have hZl : Z.length = (G - i) * 6 := by
    rw [hZ, List.length_append]
    simp only [Array.length_toList, zeroC_len z hz6]
    omega
  have hrz : Hid (∀ ty, (Builtin.append_ #[25, 3] ty #[.slice (some ⟨b, 0, none⟩) i n, .int .i64 ((n : Int) + 1 - (i : Int))]).run Try.prog w =
      .ok (.slice (some ⟨w.heap.size, 0, none⟩) (n + 1) G) (w.drew.alloc (.cells (xs.take (i * 6) ++ Z).toArray 27))) := Lib.hid (fun ty => by
    have h := Lib.run_append_grow_zeros w 25 3 ty 27 i0 z .i64 .i64 Try.underlying25 Try.underlying3 hi0 (by rw [hz0, hz]) (some ⟨b, 0, none⟩) i n (xs.take (i * 6)) hold (n + 1 - i) (by omega) (by omega) (by omega) (by omega) (by rw [hzb]; omega) (by rw [hzb, hik]; exact growslice_fits (by omega) (by omega))
    rw [hik, ← hG] at h
    rw [show (n : Int) + 1 - (i : Int) = ((n + 1 - i : Nat) : Int) by omega, h, hZ]
    congr 3
    simp)
  obtain ⟨W1, hW1⟩ : ∃ W1, W1 = w.drew.alloc (.cells (xs.take (i * 6) ++ Z).toArray 27) := ⟨_, rfl⟩
  have hb1 : Blk W1 w.heap.size 27 (xs.take (i * 6) ++ Z).toArray := by rw [hW1]; exact Blk.new w.drew _ _
  have hB1 : Below w.heap.size w W1 := by rw [hW1]; exact (Below.refl w.heap.size w).drew.alloc (by simp) _
  have hg1 : Blk W1 g 27 ys.toArray := hblk.below hB1 hblk.lt
  have hl1 : (xs.take (i * 6) ++ Z).length = G * 6 := by rw [List.length_append, hA, hZl]; omega
  have hrun1 : Hid (∀ ty, (Builtin.copy_ #[25, 25] ty #[.slice (some ⟨w.heap.size, i * 6, none⟩) (n + 1 - i) (G - i), .slice (some ⟨g, 0, none⟩) 1 1]).run Try.prog W1 = .ok (goInt ((1 : Nat) : Int)) (W1.setRow w.heap.size (spl (xs.take (i * 6) ++ Z) (i * 6) ys).toArray)) := Lib.hid (fun ty => by
    have h := run_copy_k W1 25 25 ty 27 w.heap.size (i * 6) (n + 1 - i) (G - i) ⟨g, 0, none⟩ 1 1 _ 27 ys 1 6 Try.underlying25 (by kernel_rfl) hb1 (by simp only [Nat.min_def]; split <;> omega) (by omega)
      (fun j v hj => by
        rw [add_lit9, hg1.cell, Nat.zero_add]
        simpa using hj)
      (by rw [hys]; simp only [List.size_toArray]; rw [hl1]; omega) hone
    exact h)
  obtain ⟨W2, hW2⟩ : ∃ W2, W2 = W1.setRow w.heap.size (spl (xs.take (i * 6) ++ Z) (i * 6) ys).toArray := ⟨_, rfl⟩
  have hb2 : Blk W2 w.heap.size 27 (spl (xs.take (i * 6) ++ Z) (i * 6) ys).toArray := by rw [hW2]; exact setRow_heap W1 w.heap.size _ _ 27 (0, 0) hb1
  have hbo : Blk W2 b 27 cur := by rw [hW2]; exact (setRow_other W1 w.heap.size b _ (by have := hbk.lt; omega)).trans (hbk.below hB1 hbk.lt)
  have hl2 : (spl (xs.take (i * 6) ++ Z) (i * 6) ys).length = G * 6 := by rw [spl_len (by rw [hl1, hys]; omega), hl1]
  have hrun2 : Hid (∀ ty, (Builtin.copy_ #[25, 25] ty #[.slice (some ⟨w.heap.size, (i + 1) * 6, none⟩) (n - i) (G - (i + 1)), .slice (some ⟨b, i * 6, none⟩) (n - i) (n - i)]).run Try.prog W2.drew = .ok (goInt ((n - i : Nat) : Int)) (W2.drew.setRow w.heap.size (spl (spl (xs.take (i * 6) ++ Z) (i * 6) ys) ((i + 1) * 6) (xs.drop (i * 6))).toArray)) := Lib.hid (fun ty => by
    have h := run_copy_k W2.drew 25 25 ty 27 w.heap.size ((i + 1) * 6) (n - i) (G - (i + 1)) ⟨b, i * 6, none⟩ (n - i) (n - i) _ 27 (xs.drop (i * 6)) (n - i) 6 Try.underlying25 (by kernel_rfl) hb2 (by simp only [Nat.min_def]; split <;> omega) hD
      (fun j v hj => by
        rw [add_lit9]
        show W2.cell? _ = _
        rw [hbo.cell, ← hbk.cell]
        rw [List.getElem?_drop] at hj
        exact hxc _ v hj)
      (by rw [hD]; simp only [List.size_toArray]; rw [hl2]; omega) (fun v hv => hox v (List.mem_of_mem_drop hv))
    exact h)
  have HP : Hid (InsP9 base (.slice (some ⟨b, 0, none⟩) n n) n (xs.take (i * 6) ++ ys ++ xs.drop (i * 6)) w (.returned (.slice (some ⟨w.heap.size, 0, none⟩) (n + 1) G)) (W2.drew.setRow w.heap.size (spl (spl (xs.take (i * 6) ++ Z) (i * 6) ys) ((i + 1) * 6) (xs.drop (i * 6))).toArray)) := Lib.hid (by
    have g1 : w.grownBy W1 (some b) := ⟨hB1.os, hB1.tape, hB1.output, hB1.size, fun k hk _ => hB1.block k hk⟩
    have g2 : w.grownBy W2 (some b) := by rw [hW2]; exact grown_setRow g1 (.inr (Nat.le_refl _)) _
    have g3 : w.grownBy W2.drew (some b) := ⟨g2.os, g2.tape, g2.output, g2.size, g2.block⟩
    refine ⟨_, rfl, ⟨?_, .inr ⟨w.heap.size, G, _, rfl, hb, setRow_heap W2.drew w.heap.size _ _ 27 (0, 0) hb2, hGn, hGm, ?_, ?_⟩⟩, grown_setRow g3 (.inr (Nat.le_refl _)) _, .inr ⟨_, rfl, Nat.le_refl _⟩⟩
    · rw [List.length_append, List.length_append, hA, hD, hys]; omega
    · simp only [List.size_toArray]
      rw [spl_len (by rw [hl2, hD]; omega), hl2]
    · have h := spl_new (A := xs.take (i * 6)) (Z := Z) (ys := ys) (D := xs.drop (i * 6)) (o := i * 6) (k := 6) hA hys (by rw [hD, hZl]; omega)
      rw [hD, show i * 6 + 6 = (i + 1) * 6 by omega, show (i + 1) * 6 + (n - i) * 6 = (n + 1) * 6 by omega] at h
      exact h)
  rw [← hW1] at hrz
  rw [← hW2] at hrun1
  have hG47 : (G : Int) ≤ 9223372036854775807 := by unfold maxLen at hGm; omega
  have i0 : (0 : Int) ≤ (i : Int) := by omega
  have i1 : (i : Int) < (n : Int) := by omega
  have i2 : (n : Int) ≤ 1000000 := by omega
  have i3 : (n : Int) + 1 ≤ (G : Int) := by omega
  have i4 : ((n : Int) == (i : Int)) = false := by rw [beq_eq_false_iff_ne]; omega
  have i5 : ((i : Int) == (n : Int)) = false := by rw [beq_eq_false_iff_ne]; omega
  have i6 : (i == n) = false := by rw [beq_eq_false_iff_ne]; omega
  have i8 : (i : Int) + 1 < (G : Int) := by omega
  have i9 : ¬ G = i + 1 := by omega
  have i10 : ¬ G = i := by omega
  have i11 : ¬ n = i := by omega
  obtain ⟨R, hR⟩ : ∃ R, R = xs.take (i * 6) ++ ys ++ xs.drop (i * 6) := ⟨_, rfl⟩
  rw [← hR] at HP ⊢
  clear hR hown hox hblk hys hone hbk hcs htk hbb hxl hD hA hi0 hz0 hzs hzb hxc hold hik hG hz hz6 hZ hGm hZl hW1 hb1 hB1 hg1 hl1 hW2 hb2 hbo hl2
  go_enter Try.func48, Try.ntmps48
  go_wp2_with (first | (at_builtin; refine Lib.wpList_append_run _ rfl (.tmp 34) (.tmp 39) 25 3 rfl _ _ rfl rfl _ _ (hrz.out _) ?_) | (with_reducible refine wpList_copy9 _ rfl (.tmp 43) (.tmp 44) 25 25 rfl _ _ rfl rfl (hrun1.out _) ?_))
  have jw : IntKind.i64.wrap ((i : Int) + 1) = (i : Int) + 1 := Go.IntWalk.i64_in _ (by omega)
  have jn : ((i : Int) + 1).toNat = i + 1 := by omega
  have JW := Lib.hid (And.intro jw jn)
  clear jw jn
  refine wp_region_noPanic ?_
  refine wp_region_held_drew (S := fun _ => True) (by kernel_rfl) trivial (fun hS => ?_)
  refine wpAnyH_take (i := 0) (oi := ?o2_0_1) (v := ?v2_0_1) ?i2_0_1 (by kernel_rfl) (by kernel_rfl) (by kernel_rfl) (fun _ _ _ h => h) (Or.inl ⟨?g2_0_1, ?y2_0_1⟩) hS ?_
  case i2_0_1 => simp only [List.getElem?_toArray, List.getElem?_cons_succ, List.getElem?_cons_zero]; rfl
  case g2_0_1 => rfl
  case y2_0_1 => (intro w hSw; (go_simp <;> with_reducible rfl))
  (try simp only [Act.put, List.setIfInBounds_toArray, List.set_cons_zero, List.set_cons_succ])
  refine wpAnyH_take (i := 1) (oi := ?o2_1_2) (v := ?v2_1_2) ?i2_1_2 (by kernel_rfl) (by kernel_rfl) (by kernel_rfl) (fun _ _ _ h => h) (Or.inl ⟨?g2_1_2, ?y2_1_2⟩) hS ?_
  case i2_1_2 => simp only [List.getElem?_toArray, List.getElem?_cons_succ, List.getElem?_cons_zero]; rfl
  case g2_1_2 => rfl
  case y2_1_2 => (intro w hSw; (go_simp <;> with_reducible rfl))
  (try simp only [Act.put, List.setIfInBounds_toArray, List.set_cons_zero, List.set_cons_succ])
  refine wpAnyH_take (i := 2) (oi := ?o2_2_3) (v := ?v2_2_3) ?i2_2_3 (by kernel_rfl) (by kernel_rfl) (by kernel_rfl) (fun _ _ _ h => h) (Or.inl ⟨?g2_2_3, ?y2_2_3⟩) hS ?_
  case i2_2_3 => simp only [List.getElem?_toArray, List.getElem?_cons_succ, List.getElem?_cons_zero]; rfl
  case g2_2_3 => rfl
  case y2_2_3 => (intro w hSw; (go_simp <;> with_reducible rfl))
  (try simp only [Act.put, List.setIfInBounds_toArray, List.set_cons_zero, List.set_cons_succ])
  refine wpAnyH_take (i := 3) (oi := ?o2_3_4) (v := ?v2_3_4) ?i2_3_4 (by kernel_rfl) (by kernel_rfl) (by kernel_rfl) (fun _ _ _ h => h) (Or.inl ⟨?g2_3_4, ?y2_3_4⟩) hS ?_
  case i2_3_4 => simp only [List.getElem?_toArray, List.getElem?_cons_succ, List.getElem?_cons_zero]; rfl
  case g2_3_4 => rfl
  case y2_3_4 => (intro w hSw; have jw := JW.out.1; (go_simp <;> with_reducible rfl))
  (try simp only [Act.put, List.setIfInBounds_toArray, List.set_cons_zero, List.set_cons_succ])
  refine wpAnyH_take (i := 4) (oi := ?o2_4_5) (v := ?v2_4_5) ?i2_4_5 (by kernel_rfl) (by kernel_rfl) (by kernel_rfl) (fun _ _ _ h => h) (Or.inl ⟨?g2_4_5, ?y2_4_5⟩) hS ?_
  case i2_4_5 => simp only [List.getElem?_toArray, List.getElem?_cons_succ, List.getElem?_cons_zero]; rfl
  case g2_4_5 => rfl
  case y2_4_5 => (intro w hSw; have jn := JW.out.2; have k1 : (0 : Int) ≤ (i : Int) + 1 := (by omega); have k2 : i ≤ n := (by omega); (go_simp <;> with_reducible rfl))
  (try simp only [Act.put, List.setIfInBounds_toArray, List.set_cons_zero, List.set_cons_succ])
  refine wpAnyH_take (i := 5) (oi := ?o2_5_6) (v := ?v2_5_6) ?i2_5_6 (by kernel_rfl) (by kernel_rfl) (by kernel_rfl) (fun _ _ _ h => h) (Or.inl ⟨?g2_5_6, ?y2_5_6⟩) hS ?_
  case i2_5_6 => simp only [List.getElem?_toArray, List.getElem?_cons_succ, List.getElem?_cons_zero]; rfl
  case g2_5_6 => rfl
  case y2_5_6 => (intro w hSw; (go_simp <;> with_reducible rfl))
  (try simp only [Act.put, List.setIfInBounds_toArray, List.set_cons_zero, List.set_cons_succ])
  refine wpAnyH_take (i := 6) (oi := ?o2_6_7) (v := ?v2_6_7) ?i2_6_7 (by kernel_rfl) (by kernel_rfl) (by kernel_rfl) (fun _ _ _ h => h) (Or.inl ⟨?g2_6_7, ?y2_6_7⟩) hS ?_
  case i2_6_7 => simp only [List.getElem?_toArray, List.getElem?_cons_succ, List.getElem?_cons_zero]; rfl
  case g2_6_7 => rfl
  case y2_6_7 => (intro w hSw; (go_simp <;> with_reducible rfl))
  (try simp only [Act.put, List.setIfInBounds_toArray, List.set_cons_zero, List.set_cons_succ])
  refine wpAnyH_take (i := 7) (oi := ?o2_7_8) (v := ?v2_7_8) ?i2_7_8 (by kernel_rfl) (by kernel_rfl) (by kernel_rfl) (fun _ _ _ h => h) (Or.inl ⟨?g2_7_8, ?y2_7_8⟩) hS ?_
  case i2_7_8 => simp only [List.getElem?_toArray, List.getElem?_cons_succ, List.getElem?_cons_zero]; rfl
  case g2_7_8 => rfl
  case y2_7_8 => (intro w hSw; have k3 : i ≤ n := (by omega); (go_simp <;> with_reducible rfl))
  (try simp only [Act.put, List.setIfInBounds_toArray, List.set_cons_zero, List.set_cons_succ])
  refine wpAnyH_ready (rs := [8]) (by kernel_rfl) (by simp) ?_
  refine (AllReadyH.cons (o := ?or2_9_8) ?ir2_9_8 (fun K hK => ?str2_9_8) AllReadyH.nil)
  case ir2_9_8 => simp only [List.getElem?_toArray, List.getElem?_cons_succ, List.getElem?_cons_zero]; rfl
  rw [if_pos (by rfl)]
  refine wp_copy9 _ (.tmp 50) (.tmp 53) 25 25 rfl _ _ rfl rfl (hrun2.out _) ?_
  refine hK.out _ _ ?sr2_9_8 (fun hS => ?_)
  case sr2_9_8 => (exact hS)
  clear hK K
  (try simp only [Act.put, List.setIfInBounds_toArray, List.set_cons_zero, List.set_cons_succ])
  refine wpAnyH_done (by kernel_rfl) ?_ _
  refine NoPanic.normal ?_
  clear hS
  go_wp2
  go_ret
  exact HP.out
/-- A node more in a row of the call's own. -/
theorem ins_any (v : Value) (n i g base : Nat) (xs ys : List Value) (w : World) (hown : OwnK 27 6 w base v n xs) (hox : ∀ u ∈ xs, u.oneCell' = true) (hblk : Blk w g 27 ys.toArray) (hys : ys.length = 6) (hone : ∀ u ∈ ys, u.oneCell' = true) (hn : n ≤ 1000000) (hb : base ≤ w.heap.size) (hgb : v.ownBlock ≠ some g) (hi : i ≤ n) :
    Calls Try.prog 48 #[v, .int .i64 (i : Int), .slice (some ⟨g, 0, none⟩) 1 1] w (InsP9 base v n (xs.take (i * 6) ++ ys ++ xs.drop (i * 6)) w) := by
  rcases hown.2 with ⟨rfl, rfl⟩ | ⟨b, c, cur, rfl, h1, h2, hnc, h4, h5, h6⟩
  · obtain rfl : i = 0 := by omega
    have hx : xs = [] := List.eq_nil_of_length_eq_zero (by rw [hown.1])
    subst hx
    have h := ins_nil g base ys w hblk hys hone hb
    simpa using h
  · by_cases hin : i = n
    · subst hin
      rw [List.take_of_length_le (by rw [hown.1]; exact Nat.le_refl _), List.drop_of_length_le (by rw [hown.1]; exact Nat.le_refl _), List.append_nil]
      exact ins_end b c i g base xs ys w hown hblk hys hone hn hb
    · by_cases hc : n = c
      · subst hc
        exact ins_full b n i g base xs ys w hown hox hblk hys hone hn hb (by omega)
      · exact ins_room b c n i g base xs ys w hown hox hblk hys hone hn hb (fun e => hgb (by rw [← e]; rfl)) (by omega) (by omega)
end Go.Proofs.Ytgipnemcmiohlaa

