/-
  The iterator of package varint over a number's groups of seven bits: which bytes it yields, for every loop body. No condition but those of each theorem.
-/
import Derived.Test.YtepcaaejadeklaaDoorOctH
import Derived.Test.YtepcaaejadeklaaDoorVarNum
import Derived.RangeFuncNested
import Derived.RangeFuncBound
import Derived.RangeFuncCalls
import Derived.RangeFuncLeaves
import Derived.RangeFuncBox
import Derived.Shelf.Abstract
import Derived.Shelf.RegionOpen
import Derived.OwnWalkIn
import Derived.TacticsInMore
import Derived.LoopNIn
import Derived.LoopIn
import Derived.Outline
namespace Go.Proofs.YtepcaaejadeklaaDoor
open Go.RowKit Go.Shelf
attribute [local go_sem] Oper.semAt_some

/-- A number's groups of seven bits, the lowest one first; f: how many there may be behind the first. -/
def grp : Nat → Nat → List UInt8
  | 0, x => [UInt8.ofNat (x % 128)]
  | f + 1, x => if x < 128 then [UInt8.ofNat (x % 128)] else UInt8.ofNat (x % 128) :: grp f (x / 128)
theorem grp_small (f x : Nat) (h : x < 128) : grp f x = [UInt8.ofNat (x % 128)] := by cases f <;> simp [grp, h]
theorem grp_big (f x : Nat) (h : ¬ x < 128) : grp (f + 1) x = UInt8.ofNat (x % 128) :: grp f (x / 128) := by simp [grp, h]
theorem grp_length (f x : Nat) : (grp f x).length = (encV f x).length := by
  induction f generalizing x with
  | zero => simp [grp, encV]
  | succ f ih =>
    by_cases h : x < 128
    · rw [grp_small _ _ h, encV_small _ _ h]; simp
    · rw [grp_big f x h, encV_big f x h, List.length_cons, List.length_cons, ih]

/-- The list, with its last byte less by 128. -/
def lessLast (l : List UInt8) : List UInt8 := l.modify (l.length - 1) (fun c => c - 128)

theorem lessLast_cons (b : UInt8) (l : List UInt8) (h : l ≠ []) : lessLast (b :: l) = b :: lessLast l := by
  unfold lessLast
  cases l with
  | nil => exact absurd rfl h
  | cons c l => simp
theorem enc_grp (f : Nat) : ∀ x, x < 128 ^ (f + 1) → encV f x = lessLast ((grp f x).map (fun c => c + 128)) := by
  induction f with
  | zero =>
    intro x h
    have hx : x < 128 := by simpa using h
    rw [encV_small 0 x hx, grp_small 0 x hx]
    simp [lessLast, Nat.mod_eq_of_lt hx]
  | succ f ih =>
    intro x h
    by_cases hx : x < 128
    · rw [encV_small _ x hx, grp_small _ x hx]
      simp [lessLast, Nat.mod_eq_of_lt hx]
    · rw [encV_big f x hx, grp_big f x hx, List.map_cons, lessLast_cons _ _ (by
        have := (encV_length f (x / 128)).1
        rw [← grp_length] at this
        intro e
        rw [List.map_eq_nil_iff] at e
        rw [e] at this
        simp at this), ← ih (x / 128) (by rw [Nat.pow_succ] at h; omega)]
      congr 1
      apply UInt8.toNat_inj.1
      simp

theorem groupByte (y : Nat) : byteV (UInt8.ofNat (y % 128)) = .int .u8 ((y % 128 : Nat) : Int) := by
  unfold byteV
  rw [ofNat_toNat]
  congr 1
  omega

set_option maxRecDepth 100000 in
set_option maxHeartbeats 1000000 in
theorem groups1_in (F : Fence) (n : Nat) (h6 : F.fn 35) (hro : F.round = none) (hn : 1 ≤ n) (l Bn n₀ : Nat) (x : Nat) (hx : x < 18446744073709551616) (J Jx : List UInt8 → World → Prop)
    (hY : ∀ pre c W, J pre W → pre.length < 10 → YieldAt F (n - 1) Tryd.prog l #[byteV c] W fun e W' =>
      (e = .returned (.bool true) ∧ J (pre ++ [c]) W' ∧ Below n₀ W W') ∨ (e = .returned (.bool false) ∧ Jx (pre ++ [c]) W'))
    (W : World) (hBn : W.cell? ⟨Bn, 0, none⟩ = some (.int .u64 (x : Int))) (h0 : J [] W) :
    CallsIn F n Tryd.prog 35 #[.func (.yield l) #[] #[], .pointer (some ⟨Bn, 0, none⟩)] W fun e W' => (∃ v, e = .returned v) ∧
      ((∃ ys, ys = grp 9 x ∧ J ys W') ∨ (∃ pre, pre <+: grp 9 x ∧ Jx pre W')) := by
  refine callsIn_of_wp Tryd.func35 rfl h6 ?_ hro
  simp only [Tryd.ntmps35, List.size_toArray, List.length_cons, List.length_nil, Nat.reduceAdd, Nat.reduceSub, Array.replicate_succ, Array.replicate_zero, List.push_toArray, List.append_toArray, List.nil_append, List.cons_append]
  have h10 : x < 128 ^ (9 + 1) := by
    have : (18446744073709551616 : Nat) < 128 ^ (9 + 1) := by decide
    omega
  have hlen := (encV_length 9 x).2
  rw [← grp_length] at hlen
  obtain ⟨G, hG⟩ : ∃ G, G = grp 9 x := ⟨_, rfl⟩
  rw [← hG] at hlen ⊢
  have HG := Lib.hid hG
  clear hG
  gi_wp2
  gi_loopw [3] (fun r wr => ∃ (pre : List UInt8) (f y : Nat), r = .int .u64 (y : Int) ∧ y < 18446744073709551616 ∧ Hid (y < 128 ^ (f + 1)) ∧ Hid (G = pre ++ grp f y) ∧ J pre wr)
    (fun r _ => (intOf r).toNat)
  case atStart =>
    exact ⟨[], 9, x, rfl, hx, Lib.hid h10, Lib.hid HG.out, h0⟩
  case round =>
    obtain ⟨pre, f, y, rfl, hy64, HY, HP, hJs⟩ := hrel
    obtain ⟨q, hq⟩ : ∃ q, q = y % 128 := ⟨_, rfl⟩
    have hqI : (y : Int) % 128 = (q : Int) := by omega
    have hq128 : q < 128 := by omega
    have hpl : pre.length < 10 := by
      have h := congrArg List.length HP.out
      rw [List.length_append] at h
      have h1 := (encV_length f y).1
      rw [← grp_length] at h1
      omega
    obtain ⟨fn, tmps, assign, body, hy, hR⟩ := hY pre (UInt8.ofNat q) wr hJs hpl
    have hbq : byteV (UInt8.ofNat q) = .int .u8 (q : Int) := by unfold byteV; rw [ofNat_toNat]; congr 1; omega
    rw [hbq] at hy
    have HQ := Lib.hid hq
    clear hq hbq hpl
    gi_wp2
    refine hR.mono ?_
    rintro e W3 (⟨rfl, hJ3, hk3⟩ | ⟨rfl, hJx3⟩)
    · by_cases hlt : y < 128
      · have hE : G = pre ++ [UInt8.ofNat q] := by
          rw [HQ.out]
          have h := HP.out
          rw [grp_small f y hlt] at h
          exact h
        have HE := Lib.hid hE
        have hz : ((y : Int) / 128 == 0) = true := by
          have : (y : Int) / 128 = 0 := by omega
          rw [this]; rfl
        clear hE
        gi_wp2
        refine bodyPost_ret (results_none rfl _ _ _) rfl ?_
        exact ⟨⟨_, rfl⟩, .inl ⟨_, HE.out.symm, hJ3⟩⟩
      · obtain ⟨f, rfl⟩ : ∃ f', f = f' + 1 := by
          cases f with
          | zero => exfalso; have h := HY.out; simp at h; omega
          | succ f => exact ⟨f, rfl⟩
        obtain ⟨z, hz⟩ : ∃ z, z = y / 128 := ⟨_, rfl⟩
        have hzI : (y : Int) / 128 = (z : Int) := by omega
        have hz0 : ((z : Int) == 0) = false := beq_eq_false_iff_ne.2 (by omega)
        have HN1 : Hid (z < 128 ^ (f + 1)) := Lib.hid (by have h := HY.out; rw [Nat.pow_succ] at h; omega)
        have HN2 : Hid (G = (pre ++ [UInt8.ofNat q]) ++ grp f z) := Lib.hid (by
          have h := HP.out
          rw [grp_big f y hlt] at h
          rw [h, HQ.out, hz]
          simp)
        have hzy : z < y := by omega
        clear hz
        gi_wp2
        go_roundw
        case rel => exact ⟨pre ++ [UInt8.ofNat q], f, z, rfl, by omega, HN1, HN2, hJ3⟩
        case measure => simp [intOf]; omega
    · gi_wp2
      go_end0
      have hpre : pre ++ [UInt8.ofNat q] <+: G := by
        have h := HP.out
        by_cases hlt : y < 128
        · rw [grp_small f y hlt, ← HQ.out] at h
          rw [h]
          exact List.prefix_refl _
        · obtain ⟨f, rfl⟩ : ∃ f', f = f' + 1 := by
            cases f with
            | zero => exfalso; have h := HY.out; simp at h; omega
            | succ f => exact ⟨f, rfl⟩
          rw [grp_big f y hlt, ← HQ.out] at h
          exact ⟨grp f (y / 128), by rw [h]; simp⟩
      exact ⟨⟨_, rfl⟩, .inr ⟨_, hpre, hJx3⟩⟩

set_option maxHeartbeats 1000000 in
theorem groups_in (F : Fence) (n : Nat) (h5 : F.fn 30) (hro : F.round = none) (x : Int) (w : World) :
    CallsIn F n Tryd.prog 30 #[.int .u64 x] w fun e w' => e = .returned (.func (.func 35) #[] #[.pointer (some ⟨w.heap.size, 0, none⟩)]) ∧ w' = w.alloc (.cells #[.int .u64 x] 51) := by
  refine callsIn_of_wp Tryd.func30 rfl h5 ?_ hro
  simp only [Tryd.ntmps30, List.size_toArray, List.length_cons, List.length_nil, Nat.reduceAdd, Nat.reduceSub, Array.replicate_succ, Array.replicate_zero, List.push_toArray, List.append_toArray, List.nil_append, List.cons_append]
  gi_wp2
  go_ret
  exact ⟨rfl, rfl⟩

theorem groups_stops (F : Fence) (n : Nat) (h6 : F.fn 35) (hro : F.round = none) (hn : 1 ≤ n) (Bn n₀ : Nat) (x : Nat) (hx : x < 18446744073709551616) (w : World) (hBn : Bn < w.heap.size)
    (hc : w.cell? ⟨Bn, 0, none⟩ = some (.int .u64 (x : Int))) :
    SeqStopsK F n Tryd.prog 35 #[.pointer (some ⟨Bn, 0, none⟩)] (fun c : UInt8 => #[byteV c]) (Below n₀) (fun ys => ys = grp 9 x) (fun pre => pre <+: grp 9 x) 10 w := fun l J Jx W hW _ _ hY h0 =>
  groups1_in F n h6 hro hn l Bn n₀ x hx J Jx hY W ((hW.cell (p := ⟨Bn, 0, none⟩) hBn).trans hc) h0

end Go.Proofs.YtepcaaejadeklaaDoor
