/- What the laws of package tree want of Forest. -/
import Derived.Test.YtgipnemcmiohlaaZ0Law09J
import Derived.Test.YtgipnemcmiohlaaZ1Law09C
import Derived.Test.YtgipnemcmiohlaaZ2TreWithR
import Derived.Test.YtgipnemcmiohlaaZ3Law09A
import Derived.Test.YtgipnemcmiohlaaZ6Law09A
namespace Go.Proofs.Ytgipnemcmiohlaa
open Go.RowKit
set_option linter.unusedSimpArgs false
namespace Fr
variable {α : Type}
theorem get_app_left {f g : Fr α} : ∀ {n : Nat}, n < f.len → (f.app g).get? n = f.get? n := by
  induction f with
  | nil => intro n h; simp [len] at h
  | cons a k r _ ih =>
    intro n h
    cases n with
    | zero => rfl
    | succ n => exact ih (by simp only [len] at h; omega)
theorem get_app_right {f g : Fr α} : ∀ (n : Nat), (f.app g).get? (f.len + n) = g.get? n := by
  induction f with
  | nil => intro n; simp [len, app]
  | cons a k r _ ih =>
    intro n
    rw [len_cons, show r.len + 1 + n = (r.len + n) + 1 by omega]
    exact ih n
end Fr
section
variable {α : Type} {D : RdOf α} {K p : Nat} {w w' : World} {S S' N N' : Nat → Prop}
end
section
variable {α : Type} {D : RdOf α} {K p : Nat} {w w' : World} {S S' N N' : Nat → Prop}
end
section
variable {α : Type} {D : RdOf α} {e : TypeId} {K p : Nat} {w w' : World} {base : Nat} {S S' N N' : Nat → Prop} {v : Value} {f : Fr α}
end
end Go.Proofs.Ytgipnemcmiohlaa


namespace Go.Proofs.Ytgipnemcmiohlaa
open Go.RowKit
set_option linter.unusedSimpArgs false
set_option linter.unusedVariables false
/-- A tree that is right is sorted. -/
theorem sort_right : ∀ (r g : NdF), rgtF (g.app r) = true → sortA g r = g.app r := by
  intro r
  induction r with
  | nil => intro g _; simp only [sortA]; rw [Fr.app_nil]
  | cons a k r ihk ihr =>
    intro g h
    have hat := right_at.1 h g.len (by rw [Fr.len_app]; simp [Fr.len])
    have hg : (g.app (.cons a k r)).get? g.len = some (a, k) := Fr.get_app_right 0
    have hk : sortA .nil k = k := by
      have h2 : rgtX (a, k) = true := by
        unfold okAt at hat
        rw [hg] at hat
        simp only [Bool.and_eq_true] at hat
        exact hat.1
      unfold rgtX at h2
      simp only at h2
      split at h2
      · cases k with
        | nil => rfl
        | cons => simp [Fr.len] at h2
      · simp only [Bool.and_eq_true] at h2
        exact ihk .nil h2.2
    have hp : posD a g g.len = g.len := by
      cases hn : g.len with
      | zero => rfl
      | succ n =>
        obtain ⟨b, q, hb⟩ := Fr.get_some (f := g) (n := n) (by omega)
        simp only [posD]
        rw [hb]
        simp only
        rw [if_neg]
        intro e
        rw [hn] at hat hg
        unfold okAt at hat
        rw [hg] at hat
        simp only at hat
        rw [Fr.get_app_left (by omega : n < g.len), hb] at hat
        simp only [Bool.and_eq_true] at hat
        have := lessS_asymm hat.2
        rw [show lessS (stp a) (stp b) = true from e] at this
        cases this
    have hi : insB (a, sortA .nil k) g = g.app (.cons a k .nil) := by
      rw [hk]
      unfold insB
      rw [hp]
      unfold withF
      rw [Fr.take_all, Nat.add_zero, Fr.drop_all, Fr.app_nil]
      rfl
    simp only [sortA]
    rw [hi, ihr _ (by rw [Fr.app_assoc]; exact h), Fr.app_assoc]
    rfl
theorem sortX_right {x : Nd} (h : rgtX x = true) : sortX x = x := by
  unfold rgtX at h
  obtain ⟨a, f⟩ := x
  split at h
  · cases f with
    | nil => rfl
    | cons => simp [Fr.len] at h
  · simp only [Bool.and_eq_true] at h
    show (a, sortA .nil f) = (a, f)
    rw [sort_right f .nil h.2]
    rfl
end Go.Proofs.Ytgipnemcmiohlaa


namespace Go.Proofs.Ytgipnemcmiohlaa
open Go.RowKit
set_option linter.unusedSimpArgs false
set_option linter.unusedVariables false
theorem Over9.set_name {S : Nat → Prop} {w : World} {b o : Nat} {s0 : List UInt8} (hb : S b) (ho : o % 6 = 0) (hc : w.cell? ⟨b, o, none⟩ = some (.string (txt s0))) (s : List UInt8) : Over9 S w (w.setCell ⟨b, o, none⟩ (.string (txt s))) where
  os := rfl
  tape := rfl
  output := rfl
  size := Nat.le_of_eq (by simp [World.setCell])
  out g _ hs := Below.heap_setCell _ _ _ _ (fun e => hs (by rw [show g = b from e]; exact hb))
  same g hs p h0 h3 := World.cell?_setCell_other _ _ _ _ (by intro e; injection e with _ e2; omega)
  name g hs p h0 s1 hc1 := by
    by_cases e : (⟨b, o, none⟩ : Addr) = ⟨g, p, none⟩
    · rw [← e]
      exact ⟨s, World.cell?_setCell_same' _ _ _ (by rw [hc]; rfl)⟩
    · exact ⟨s1, (World.cell?_setCell_other _ _ _ _ e).trans hc1⟩
  num g hs p h0 n hc1 := ⟨n, (World.cell?_setCell_other _ _ _ _ (by intro e; injection e with _ e2; omega)).trans hc1⟩
  unf g hs hu := hu.setCell _ rfl _
theorem Over9.set_num {S : Nat → Prop} {w : World} {b o : Nat} {n0 : Nat} (hb : S b) (ho : o % 6 = 3) (hc : w.cell? ⟨b, o, none⟩ = some (.int .u64 (n0 : Int))) (n : Nat) : Over9 S w (w.setCell ⟨b, o, none⟩ (.int .u64 (n : Int))) where
  os := rfl
  tape := rfl
  output := rfl
  size := Nat.le_of_eq (by simp [World.setCell])
  out g _ hs := Below.heap_setCell _ _ _ _ (fun e => hs (by rw [show g = b from e]; exact hb))
  same g hs p h0 h3 := World.cell?_setCell_other _ _ _ _ (by intro e; injection e with _ e2; omega)
  name g hs p h0 s1 hc1 := ⟨s1, (World.cell?_setCell_other _ _ _ _ (by intro e; injection e with _ e2; omega)).trans hc1⟩
  num g hs p h0 n1 hc1 := by
    by_cases e : (⟨b, o, none⟩ : Addr) = ⟨g, p, none⟩
    · rw [← e]
      exact ⟨n, World.cell?_setCell_same' _ _ _ (by rw [hc]; rfl)⟩
    · exact ⟨n1, (World.cell?_setCell_other _ _ _ _ e).trans hc1⟩
  unf g hs hu := hu.setCell _ rfl _
theorem like_size9 {f : NdF} : ∀ {g : NdF}, like9 f g → g.size = f.size := by
  induction f with
  | nil => intro g h; cases g with
    | nil => rfl
    | cons => exact h.elim
  | cons a k r ihk ih => intro g h; cases g with
    | nil => exact h.elim
    | cons b q s => simp only [Fr.size]; rw [ihk h.1, ih h.2]
end Go.Proofs.Ytgipnemcmiohlaa


namespace Go.Proofs.Ytgipnemcmiohlaa
open Go.RowKit
set_option linter.unusedSimpArgs false
set_option linter.unusedVariables false
def OverP (S : Nat → Prop) (w : World) (r : Ending) (w' : World) : Prop := r = .returned (.tuple #[]) ∧ Over9 S w w'
set_option maxRecDepth 100000 in
set_option maxHeartbeats 8000000 in
theorem over_n : ∀ (n : Nat) (f : NdF), f.size < n → ∀ (a : NdD) (A : Option Addr) (c : Nat) (S : Nat → Prop) (w : World), (∀ g, S g → UnF w g) → RowO S w (.slice A f.len c) f → f.size ≤ 1000000 →
    Calls Try.prog 26 #[.agg #[.string (txt a.name), .string (txt a.key), .int .i64 a.kind, .int .u64 (a.num : Int), .string (txt a.text), .slice A f.len c]] w (OverP S w) := by
  intro n
  induction n with
  | zero => intro f h; omega
  | succ n ih =>
    intro f hn a A c S w hS hrow hsz
    have hlt0 : ∀ g, S g → g < w.heap.size := fun g hg => by
      obtain ⟨cs, t, hb⟩ := hS g hg
      exact hb.lt
    have HO0 : Hid (Over9 S w (w.alloc (.cells #[.string (txt a.name), .string (txt a.key), .int .i64 a.kind, .int .u64 (a.num : Int), .string (txt a.text), .slice A f.len c] 27))) := Lib.hid (Over9.below hlt0 ((Below.refl _ _).alloc (Nat.le_refl _) _))
    have HX0 := Lib.hid (Blk.new w 27 #[.string (txt a.name), .string (txt a.key), .int .i64 a.kind, .int .u64 (a.num : Int), .string (txt a.text), .slice A f.len c])
    have HIH := Lib.hid ih
    have HN := Lib.hid hn
    have HU := Lib.hid hS
    have HR := Lib.hid hrow
    have HL0 := Lib.hid hlt0
    have HZS := Lib.hid hsz
    obtain ⟨L, hL⟩ : ∃ L, L = f.len := ⟨_, rfl⟩
    have HL := Lib.hid hL
    have HLS : Hid (L ≤ 1000000) := Lib.hid (by have := Fr.len_size f; omega)
    have HB0 : Hid (w.heap.size < (w.alloc (.cells #[.string (txt a.name), .string (txt a.key), .int .i64 a.kind, .int .u64 (a.num : Int), .string (txt a.text), .slice A f.len c] 27)).heap.size) := Lib.hid (by simp)
    rw [← hL] at HR HO0 HX0 HB0 ⊢
    clear ih hn hS hrow hlt0 hsz hL
    go_enter Try.func26, Try.ntmps26
    go_wp2
    go_loopw [2] (fun i wr => ∃ k : Nat, k ≤ L ∧ i = .int .i64 (k : Int) ∧ Hid (Over9 S (w.alloc (.cells #[.string (txt a.name), .string (txt a.key), .int .i64 a.kind, .int .u64 (a.num : Int), .string (txt a.text), .slice A L c] 27)) wr)) (fun i _ => L - (intOf i).toNat)
    case atStart => exact ⟨0, Nat.zero_le _, rfl, Lib.hid (Over9.refl _ _)⟩
    case round =>
      obtain ⟨k, hk, rfl, HO⟩ := hrel
      have hX : Blk wr w.heap.size 27 #[.string (txt a.name), .string (txt a.key), .int .i64 a.kind, .int .u64 (a.num : Int), .string (txt a.text), .slice A L c] := (HO.out.out _ HB0.out (fun h => absurd (HL0.out _ h) (Nat.lt_irrefl _))).trans HX0.out
      have HX := Lib.hid hX
      have p5 : wr.cell? ⟨w.heap.size, 5, none⟩ = some (.slice A L c) := (hX.cell 5).trans rfl
      by_cases hlt : k < L
      · obtain ⟨f1, hlk, hR⟩ := HR.out.over (HO0.out.trans HO.out)
        have hfl := like_len9 hlk
        have hfs := like_size9 hlk
        obtain ⟨y, ky, hy⟩ := Fr.get_some (f := f1) (n := k) (by rw [hfl, ← HL.out]; exact hlt)
        obtain ⟨b, o, A', c', rfl, -, hc, hSb, hal, hRk, hcell⟩ := hR.at hy
        have q0 : (wr).cell? ⟨b, o + k * 6, none⟩ = _ := hcell 0 _ rfl
        have q1 : (wr).cell? ⟨b, o + k * 6 + 1, none⟩ = _ := hcell 1 _ rfl
        have q2 : (wr).cell? ⟨b, o + k * 6 + 2, none⟩ = _ := hcell 2 _ rfl
        have q3 : (wr).cell? ⟨b, o + k * 6 + 3, none⟩ = _ := hcell 3 _ rfl
        have q4 : (wr).cell? ⟨b, o + k * 6 + 4, none⟩ = _ := hcell 4 _ rfl
        have q5 : (wr).cell? ⟨b, o + k * 6 + 5, none⟩ = _ := hcell 5 _ rfl
        have hksz := Fr.size_get hy
        have hU : ∀ g, S g → UnF wr g := fun g hg => HO.out.unf g hg (HO0.out.unf g hg (HU.out g hg))
        have HC : Hid (Calls Try.prog 26 #[.agg #[.string (txt y.name), .string (txt y.key), .int .i64 y.kind, .int .u64 (y.num : Int), .string (txt y.text), .slice A' ky.len c']] wr (OverP S wr)) := Lib.hid (HIH.out ky (by have := HN.out; omega) y A' c' S wr hU hRk (by have := HZS.out; omega))
        have hne : b ≠ w.heap.size := fun e => by
          rw [e] at hSb
          exact absurd (HL0.out _ hSb) (Nat.lt_irrefl _)
        have hne2 : w.heap.size ≠ b := fun e => hne e.symm
        have i1 : (0 : Int) ≤ (k : Int) := by omega
        have i2 : (k : Int) < (L : Int) := by omega
        have i3 : (L : Int) ≤ 1000000 := by have := HLS.out; omega
        have HQ := Lib.hid (And.intro q0 q3)
        have HSb := Lib.hid (And.intro hSb hal)
        have HNE := Lib.hid (And.intro hne hne2)
        have HUw := Lib.hid hU
        clear hX hlk hR hfl hfs hy hc hRk hcell hksz hU hne hne2 hSb hal hk
        go_wp2_with fail
        refine HC.out.mono ?_
        rintro r w2 ⟨rfl, ho2⟩
        obtain ⟨s1, z0⟩ := ho2.name b HSb.out.1 (o + k * 6) (by have := HSb.out.2; omega) y.name HQ.out.1
        obtain ⟨n1, z3⟩ := ho2.num b HSb.out.1 (o + k * 6 + 3) (by have := HSb.out.2; omega) y.num HQ.out.2
        have hsz2 := HO.out.size
        have hX2 : Blk w2 w.heap.size 27 #[.string (txt a.name), .string (txt a.key), .int .i64 a.kind, .int .u64 (a.num : Int), .string (txt a.text), .slice (some ⟨b, o, none⟩) L c] := (ho2.out _ (Nat.lt_of_lt_of_le HB0.out hsz2) (fun h => absurd (HL0.out _ h) (Nat.lt_irrefl _))).trans HX.out
        have hU2 : UnF w2 b := ho2.unf b HSb.out.1 (HUw.out b HSb.out.1)
        have x5 : w2.cell? ⟨w.heap.size, 5, none⟩ = some (.slice (some ⟨b, o, none⟩) L c) := (hX2.cell 5).trans rfl
        have zf0 : w2.frozen? ⟨b, o + k * 6, none⟩ = false := hU2.frozen _
        have y5 : (w2.setCell ⟨b, o + k * 6, none⟩ (.string ⟨#[111, 118, 101, 114]⟩)).cell? ⟨w.heap.size, 5, none⟩ = some (.slice (some ⟨b, o, none⟩) L c) := ((hX2.far (p := ⟨b, o + k * 6, none⟩) HNE.out.2 _).cell 5).trans rfl
        have y3 : (w2.setCell ⟨b, o + k * 6, none⟩ (.string ⟨#[111, 118, 101, 114]⟩)).cell? ⟨b, o + k * 6 + 3, none⟩ = some (.int .u64 (n1 : Int)) := (World.cell?_setCell_other _ _ _ _ (by intro e; injection e with _ e2; omega)).trans z3
        have zf3 : (w2.setCell ⟨b, o + k * 6, none⟩ (.string ⟨#[111, 118, 101, 114]⟩)).frozen? ⟨b, o + k * 6 + 3, none⟩ = false := (hU2.setCell ⟨b, o + k * 6, none⟩ rfl _).frozen _
        have HO2 : Hid (Over9 S (w.alloc (.cells #[.string (txt a.name), .string (txt a.key), .int .i64 a.kind, .int .u64 (a.num : Int), .string (txt a.text), .slice (some ⟨b, o, none⟩) L c] 27)) ((w2.setCell ⟨b, o + k * 6, none⟩ (.string ⟨#[111, 118, 101, 114]⟩)).setCell ⟨b, o + k * 6 + 3, none⟩ (.int .u64 99))) := Lib.hid (HO.out.trans (ho2.trans ((Over9.set_name HSb.out.1 (by have := HSb.out.2; omega) z0 [111, 118, 101, 114]).trans (Over9.set_num HSb.out.1 (by have := HSb.out.2; omega) y3 99))))
        clear ho2 hX2 hU2 hsz2 q0 q1 q2 q3 q4 q5 p5
        go_wp2
        go_roundw
        case rel => exact ⟨k + 1, by omega, by go_num, HO2⟩
        case measure => simp [intOf]; omega
      · have i2 : ¬ (k : Int) < (L : Int) := by omega
        clear hX hk
        go_wp2
        (first | go_end0 | refine bodyPost_ret (results_none rfl _ _ _) rfl ?_)
        exact ⟨rfl, HO0.out.trans HO.out⟩
theorem over_any {f : NdF} {a : NdD} {A : Option Addr} {c : Nat} {S : Nat → Prop} {w : World} (hS : ∀ g, S g → UnF w g) (h : RowO S w (.slice A f.len c) f) (hf : f.size ≤ 1000000) :
    Calls Try.prog 26 #[.agg #[.string (txt a.name), .string (txt a.key), .int .i64 a.kind, .int .u64 (a.num : Int), .string (txt a.text), .slice A f.len c]] w (OverP S w) := over_n (f.size + 1) f (Nat.lt_succ_self _) a A c S w hS h hf
end Go.Proofs.Ytgipnemcmiohlaa

