/-
  SpecOwn where what was told has no kids, if package spec answers as it is to and the law is awake. Written by wip/tools/mk07own.py.
-/
import Derived.Test.YtkpbjgjflabloaaLaw07D
namespace Go.Proofs.Ytkpbjgjflabloaa
open Go.RowKit
set_option linter.unusedSimpArgs false
set_option linter.unusedVariables false

theorem all_nk : (([1, 2, 3] : List Nat).all fun v => ((rootD, rootF v) :: inner (rootF v)).all fun x => decide (x.1.names = []) || decide (x.2.len = 0)) = true := by decide
theorem names_kids {v : Int} {l : List (List UInt8)} {x : Sp} (h1 : 1 ≤ v) (h3 : v ≤ 3) (hd : downX (rootD, rootF v.toNat) l = some x) : x.1.names = [] ∨ x.2.len = 0 := by
  have hv : v.toNat ∈ ([1, 2, 3] : List Nat) := by
    have : v.toNat = 1 ∨ v.toNat = 2 ∨ v.toNat = 3 := by omega
    simpa using this
  have h2 := List.all_eq_true.1 (List.all_eq_true.1 all_nk _ hv)
  rcases down_in hd with rfl | h
  · have := h2 (rootD, rootF v.toNat) (by simp)
    simpa using this
  · have := h2 x (by simp [h])
    simpa using this
/-- The cells of a thing, the lengths of its rows by name. -/
abbrev flC (nm : List UInt8) (kd ty lo hi : Nat) (B : Option Addr) (NN m : Nat) (mu : Bool) (mo : Nat) (A : Option Addr) (K c : Nat) : List Value := [.string (txt nm), .int .i64 (kd : Int), .int .i64 (ty : Int), .int .u64 (lo : Int), .int .u64 (hi : Int), .slice B NN m, .bool mu, .int .i64 (mo : Int), .slice A K c]
theorem LieP.flat2 {nm : List UInt8} {kd ty lo hi : Nat} {ns : List (List UInt8)} {mu : Bool} {mo : Nat} {f : SpF} {e : Nat} (E : Int) (hE : (e : Int) = E) (NN : Nat) (hN : ns.length = NN) (K : Nat) (hK : f.len = K) {w : World} {r : Ending} {w' : World} (h : LieP ((⟨nm, kd, ty, lo, hi, ns, mu, mo⟩, f), e) w r w') :
    ∃ B m A c, r = .returned (.tuple #[.agg (flC nm kd ty lo hi B NN m mu mo A K c).toArray, .int .i64 E]) ∧ Lies w' (flC nm kd ty lo hi B NN m mu mo A K c) (⟨nm, kd, ty, lo, hi, ns, mu, mo⟩, f) ∧ Below w.heap.size w w' := by
  obtain ⟨cs, rfl, hl, hb⟩ := h
  obtain ⟨B, m, A, c, rfl⟩ := hl.shape
  subst hE hN hK
  exact ⟨B, m, A, c, rfl, hl, hb⟩
theorem plain_f {nm : List UInt8} {kd ty lo hi : Nat} {ns : List (List UInt8)} {mu : Bool} {mo : Nat} {f : SpF} {cs : List Value} (NN : Nat) (hN : ns.length = NN) (K : Nat) (hK : f.len = K) {w : World} (h : Lies w cs (⟨nm, kd, ty, lo, hi, ns, mu, mo⟩, f)) (hf : Few (⟨nm, kd, ty, lo, hi, ns, mu, mo⟩, f)) :
    Calls Try.prog 13 #[.agg cs.toArray] w (fun r w' => ∃ B m A c, r = .returned (.agg (flC nm kd ty lo hi B NN m mu mo A K c).toArray) ∧ Lies w' (flC nm kd ty lo hi B NN m mu mo A K c) (⟨nm, kd, ty, lo, hi, ns, mu, mo⟩, f) ∧ Below w.heap.size w w') := by
  refine (plain_l h hf).mono ?_
  rintro r w' ⟨cs', rfl, hl, hb⟩
  obtain ⟨B, m, A, c, rfl⟩ := hl.shape
  subst hN hK
  exact ⟨B, m, A, c, rfl, hl, hb⟩
set_option maxRecDepth 100000 in
set_option maxHeartbeats 4000000 in
theorem specOwn_long (v : Int) (l : List (List UInt8)) (An : Option Addr) (cn L d : Nat) (w : World) (hn : Vals w d (.slice An l.length cn) (txts l)) (hL : L = l.length) (hc : 20 < L) (HA : Awake7 w) :
    Calls Try.prog 6 #[.int .i64 v, .slice An L cn] w fun e w' => e = .returned (.bool true) ∧ Below w.heap.size w w' := by
  have HAW := Lib.hid (HA w (Below.refl _ _))
  have i0 : (20 : Int) < (L : Int) := by omega
  clear HA hc hn hL
  go_enter Try.func6, Try.ntmps6
  go_wp2_with fail
  refine HAW.out.mono ?_
  rintro r w1 ⟨rfl, hB1⟩
  have HB := Lib.hid hB1
  clear hB1
  go_wp2
  go_ret
  exact ⟨rfl, HB.out⟩
set_option maxRecDepth 100000 in
set_option maxHeartbeats 4000000 in
theorem specOwn_err (v : Int) (hv0 : -9223372036854775808 ≤ v) (hv1 : v ≤ 9223372036854775807) (l : List (List UInt8)) (An : Option Addr) (cn L d : Nat) (w : World) (hn : Vals w d (.slice An l.length cn) (txts l)) (hL : L = l.length) (hc : L ≤ 20) (e : Nat) (he : e = 22 ∨ e = 28) (hX : atX v l = ((zeroD, .nil), e)) (C : SpcC w) (HA : Awake7 w) :
    Calls Try.prog 6 #[.int .i64 v, .slice An L cn] w fun e w' => e = .returned (.bool true) ∧ Below w.heap.size w w' := by
  rcases he with rfl | rfl
  · have HAW := Lib.hid (HA w (Below.refl _ _))
    have i0 : ¬ (20 : Int) < (L : Int) := by omega
    have M := Lib.hid (fun (W : World) (h : Below w.heap.size w W) => show Calls Try.prog 10 #[.int .i64 v, .slice An L cn] W (LieP ((⟨[], 0, 0, 0, 0, [], false, 0⟩, .nil), 22) W) from by
        rw [hL]
        have h3 := C.at_ v l d _ W hv0 hv1 (by omega) (hn.kept_ h) h
        rw [hX] at h3
        exact h3.mono fun _ _ h => h.lie)
    have FX : Hid (Few ((⟨[], 0, 0, 0, 0, [], false, 0⟩, .nil))) := Lib.hid (by have h := few_at v l; rw [hX] at h; exact h)
    clear HA C hn hL hX hc hv0 hv1
    go_enter Try.func6, Try.ntmps6
    go_wp2_with fail
    refine HAW.out.mono ?_
    rintro r w1 ⟨rfl, hB1⟩
    have H1 := Lib.hid hB1
    clear hB1
    go_wp2_with fail
    refine (M.out _ H1.out).mono ?_
    intro r w2 hr
    obtain ⟨B2, m2, A2, c2, rfl, hl, hb⟩ := hr.flat2 22 rfl 0 rfl 0 rfl
    have H2 := Lib.hid (H1.out.trans (hb.mono H1.out.size))
    have H3 : Hid (Below w.heap.size w (w2.alloc (.cells #[.string (txt []), .int .i64 0, .int .i64 0, .int .u64 0, .int .u64 0, .slice B2 0 m2, .bool false, .int .i64 0, .slice A2 0 c2] 27))) := Lib.hid (H2.out.alloc H2.out.size _)
    have L3 : Hid (Lies (w2.alloc (.cells #[.string (txt []), .int .i64 0, .int .i64 0, .int .u64 0, .int .u64 0, .slice B2 0 m2, .bool false, .int .i64 0, .slice A2 0 c2] 27)) [.string (txt []), .int .i64 0, .int .i64 0, .int .u64 0, .int .u64 0, .slice B2 0 m2, .bool false, .int .i64 0, .slice A2 0 c2] ((⟨[], 0, 0, 0, 0, [], false, 0⟩, .nil))) := Lib.hid (hl.below ((Below.refl _ _).alloc (Nat.le_refl _) _))
    have X3 : Hid (Blk (w2.alloc (.cells #[.string (txt []), .int .i64 0, .int .i64 0, .int .u64 0, .int .u64 0, .slice B2 0 m2, .bool false, .int .i64 0, .slice A2 0 c2] 27)) w2.heap.size 27 #[.string (txt []), .int .i64 0, .int .i64 0, .int .u64 0, .int .u64 0, .slice B2 0 m2, .bool false, .int .i64 0, .slice A2 0 c2]) := Lib.hid (Blk.new _ _ _)
    clear hr hl hb H2
    go_wp2
    go_loopw [8] (fun i wr => i = .int .i64 0 ∧ wr = (w2.alloc (.cells #[.string (txt []), .int .i64 0, .int .i64 0, .int .u64 0, .int .u64 0, .slice B2 0 m2, .bool false, .int .i64 0, .slice A2 0 c2] 27))) (fun _ _ => 0)
    case atStart => exact ⟨rfl, rfl⟩
    case round =>
      obtain ⟨rfl, rfl⟩ := hrel
      have q0 := (X3.out.cell 0).trans rfl
      have q1 := (X3.out.cell 1).trans rfl
      have q2 := (X3.out.cell 2).trans rfl
      have q3 := (X3.out.cell 3).trans rfl
      have q4 := (X3.out.cell 4).trans rfl
      have q5 := (X3.out.cell 5).trans rfl
      have q6 := (X3.out.cell 6).trans rfl
      have q7 := (X3.out.cell 7).trans rfl
      have q8 := (X3.out.cell 8).trans rfl
      go_wp2_with fail
      refine (plain_f 0 rfl 0 rfl L3.out FX.out).mono ?_
      rintro r w4 ⟨B4, m4, A4, c4, rfl, hl, hb⟩
      have hk : Below (w2.alloc (.cells #[.string (txt []), .int .i64 0, .int .i64 0, .int .u64 0, .int .u64 0, .slice B2 0 m2, .bool false, .int .i64 0, .slice A2 0 c2] 27)).heap.size (w2.alloc (.cells #[.string (txt []), .int .i64 0, .int .i64 0, .int .u64 0, .int .u64 0, .slice B2 0 m2, .bool false, .int .i64 0, .slice A2 0 c2] 27)) (w4.alloc (.cells #[.string (txt []), .int .i64 0, .int .i64 0, .int .u64 0, .int .u64 0, .slice B4 0 m4, .bool false, .int .i64 0, .slice A4 0 c4] 33)) := hb.alloc hb.size _
      have H5 : Hid (Below w.heap.size w (w4.alloc (.cells #[.string (txt []), .int .i64 0, .int .i64 0, .int .u64 0, .int .u64 0, .slice B4 0 m4, .bool false, .int .i64 0, .slice A4 0 c4] 33))) := Lib.hid (H3.out.trans (hk.mono H3.out.size))
      have X5 := Lib.hid (X3.out.below hk X3.out.lt)
      have L5 : Hid (Lies (w4.alloc (.cells #[.string (txt []), .int .i64 0, .int .i64 0, .int .u64 0, .int .u64 0, .slice B4 0 m4, .bool false, .int .i64 0, .slice A4 0 c4] 33)) [.string (txt []), .int .i64 0, .int .i64 0, .int .u64 0, .int .u64 0, .slice B4 0 m4, .bool false, .int .i64 0, .slice A4 0 c4] ((⟨[], 0, 0, 0, 0, [], false, 0⟩, .nil))) := Lib.hid (hl.below ((Below.refl _ _).alloc (Nat.le_refl _) _))
      have Y5 : Hid (Blk (w4.alloc (.cells #[.string (txt []), .int .i64 0, .int .i64 0, .int .u64 0, .int .u64 0, .slice B4 0 m4, .bool false, .int .i64 0, .slice A4 0 c4] 33)) w4.heap.size 33 #[.string (txt []), .int .i64 0, .int .i64 0, .int .u64 0, .int .u64 0, .slice B4 0 m4, .bool false, .int .i64 0, .slice A4 0 c4]) := Lib.hid (Blk.new _ _ _)
      clear hl hb hk q0 q1 q2 q3 q4 q5 q6 q7 q8 X3 L3 H3
      go_wp2
      go_loopw [11] (fun i wr => i = .int .i64 0 ∧ wr = (w4.alloc (.cells #[.string (txt []), .int .i64 0, .int .i64 0, .int .u64 0, .int .u64 0, .slice B4 0 m4, .bool false, .int .i64 0, .slice A4 0 c4] 33))) (fun _ _ => 0)
      case atStart => exact ⟨rfl, rfl⟩
      case round =>
        obtain ⟨rfl, rfl⟩ := hrel
        have q5 := (X5.out.cell 5).trans rfl
        have q8 := (X5.out.cell 8).trans rfl
        go_wp2
        go_loopw [12] (fun i wr => i = .int .i64 0 ∧ wr = (w4.alloc (.cells #[.string (txt []), .int .i64 0, .int .i64 0, .int .u64 0, .int .u64 0, .slice B4 0 m4, .bool false, .int .i64 0, .slice A4 0 c4] 33))) (fun _ _ => 0)
        case atStart => exact ⟨rfl, rfl⟩
        case round =>
          obtain ⟨rfl, rfl⟩ := hrel
          go_wp2_with fail
          refine (M.out _ H5.out).mono ?_
          intro r w6 hr
          obtain ⟨B6, m6, A6, c6, rfl, hl, hb⟩ := hr.flat2 _ rfl 0 rfl 0 rfl
          have H6 : Hid (Below w.heap.size w (w6.alloc (.cells #[.string (txt []), .int .i64 0, .int .i64 0, .int .u64 0, .int .u64 0, .slice B6 0 m6, .bool false, .int .i64 0, .slice A6 0 c6] 27))) := Lib.hid ((H5.out.trans (hb.mono H5.out.size)).alloc (H5.out.trans (hb.mono H5.out.size)).size _)
          have X6 := Lib.hid ((X5.out.below hb X5.out.lt).alloc (.cells #[.string (txt []), .int .i64 0, .int .i64 0, .int .u64 0, .int .u64 0, .slice B6 0 m6, .bool false, .int .i64 0, .slice A6 0 c6] 27))
          have q8 := (X6.out.cell 8).trans rfl
          clear hr hl hb
          go_wp2
          go_ret
          exact ⟨rfl, H6.out⟩
  · have HAW := Lib.hid (HA w (Below.refl _ _))
    have i0 : ¬ (20 : Int) < (L : Int) := by omega
    have M := Lib.hid (fun (W : World) (h : Below w.heap.size w W) => show Calls Try.prog 10 #[.int .i64 v, .slice An L cn] W (LieP ((⟨[], 0, 0, 0, 0, [], false, 0⟩, .nil), 28) W) from by
        rw [hL]
        have h3 := C.at_ v l d _ W hv0 hv1 (by omega) (hn.kept_ h) h
        rw [hX] at h3
        exact h3.mono fun _ _ h => h.lie)
    have FX : Hid (Few ((⟨[], 0, 0, 0, 0, [], false, 0⟩, .nil))) := Lib.hid (by have h := few_at v l; rw [hX] at h; exact h)
    clear HA C hn hL hX hc hv0 hv1
    go_enter Try.func6, Try.ntmps6
    go_wp2_with fail
    refine HAW.out.mono ?_
    rintro r w1 ⟨rfl, hB1⟩
    have H1 := Lib.hid hB1
    clear hB1
    go_wp2_with fail
    refine (M.out _ H1.out).mono ?_
    intro r w2 hr
    obtain ⟨B2, m2, A2, c2, rfl, hl, hb⟩ := hr.flat2 28 rfl 0 rfl 0 rfl
    have H2 := Lib.hid (H1.out.trans (hb.mono H1.out.size))
    have H3 : Hid (Below w.heap.size w (w2.alloc (.cells #[.string (txt []), .int .i64 0, .int .i64 0, .int .u64 0, .int .u64 0, .slice B2 0 m2, .bool false, .int .i64 0, .slice A2 0 c2] 27))) := Lib.hid (H2.out.alloc H2.out.size _)
    have L3 : Hid (Lies (w2.alloc (.cells #[.string (txt []), .int .i64 0, .int .i64 0, .int .u64 0, .int .u64 0, .slice B2 0 m2, .bool false, .int .i64 0, .slice A2 0 c2] 27)) [.string (txt []), .int .i64 0, .int .i64 0, .int .u64 0, .int .u64 0, .slice B2 0 m2, .bool false, .int .i64 0, .slice A2 0 c2] ((⟨[], 0, 0, 0, 0, [], false, 0⟩, .nil))) := Lib.hid (hl.below ((Below.refl _ _).alloc (Nat.le_refl _) _))
    have X3 : Hid (Blk (w2.alloc (.cells #[.string (txt []), .int .i64 0, .int .i64 0, .int .u64 0, .int .u64 0, .slice B2 0 m2, .bool false, .int .i64 0, .slice A2 0 c2] 27)) w2.heap.size 27 #[.string (txt []), .int .i64 0, .int .i64 0, .int .u64 0, .int .u64 0, .slice B2 0 m2, .bool false, .int .i64 0, .slice A2 0 c2]) := Lib.hid (Blk.new _ _ _)
    clear hr hl hb H2
    go_wp2
    go_loopw [8] (fun i wr => i = .int .i64 0 ∧ wr = (w2.alloc (.cells #[.string (txt []), .int .i64 0, .int .i64 0, .int .u64 0, .int .u64 0, .slice B2 0 m2, .bool false, .int .i64 0, .slice A2 0 c2] 27))) (fun _ _ => 0)
    case atStart => exact ⟨rfl, rfl⟩
    case round =>
      obtain ⟨rfl, rfl⟩ := hrel
      have q0 := (X3.out.cell 0).trans rfl
      have q1 := (X3.out.cell 1).trans rfl
      have q2 := (X3.out.cell 2).trans rfl
      have q3 := (X3.out.cell 3).trans rfl
      have q4 := (X3.out.cell 4).trans rfl
      have q5 := (X3.out.cell 5).trans rfl
      have q6 := (X3.out.cell 6).trans rfl
      have q7 := (X3.out.cell 7).trans rfl
      have q8 := (X3.out.cell 8).trans rfl
      go_wp2_with fail
      refine (plain_f 0 rfl 0 rfl L3.out FX.out).mono ?_
      rintro r w4 ⟨B4, m4, A4, c4, rfl, hl, hb⟩
      have hk : Below (w2.alloc (.cells #[.string (txt []), .int .i64 0, .int .i64 0, .int .u64 0, .int .u64 0, .slice B2 0 m2, .bool false, .int .i64 0, .slice A2 0 c2] 27)).heap.size (w2.alloc (.cells #[.string (txt []), .int .i64 0, .int .i64 0, .int .u64 0, .int .u64 0, .slice B2 0 m2, .bool false, .int .i64 0, .slice A2 0 c2] 27)) (w4.alloc (.cells #[.string (txt []), .int .i64 0, .int .i64 0, .int .u64 0, .int .u64 0, .slice B4 0 m4, .bool false, .int .i64 0, .slice A4 0 c4] 33)) := hb.alloc hb.size _
      have H5 : Hid (Below w.heap.size w (w4.alloc (.cells #[.string (txt []), .int .i64 0, .int .i64 0, .int .u64 0, .int .u64 0, .slice B4 0 m4, .bool false, .int .i64 0, .slice A4 0 c4] 33))) := Lib.hid (H3.out.trans (hk.mono H3.out.size))
      have X5 := Lib.hid (X3.out.below hk X3.out.lt)
      have L5 : Hid (Lies (w4.alloc (.cells #[.string (txt []), .int .i64 0, .int .i64 0, .int .u64 0, .int .u64 0, .slice B4 0 m4, .bool false, .int .i64 0, .slice A4 0 c4] 33)) [.string (txt []), .int .i64 0, .int .i64 0, .int .u64 0, .int .u64 0, .slice B4 0 m4, .bool false, .int .i64 0, .slice A4 0 c4] ((⟨[], 0, 0, 0, 0, [], false, 0⟩, .nil))) := Lib.hid (hl.below ((Below.refl _ _).alloc (Nat.le_refl _) _))
      have Y5 : Hid (Blk (w4.alloc (.cells #[.string (txt []), .int .i64 0, .int .i64 0, .int .u64 0, .int .u64 0, .slice B4 0 m4, .bool false, .int .i64 0, .slice A4 0 c4] 33)) w4.heap.size 33 #[.string (txt []), .int .i64 0, .int .i64 0, .int .u64 0, .int .u64 0, .slice B4 0 m4, .bool false, .int .i64 0, .slice A4 0 c4]) := Lib.hid (Blk.new _ _ _)
      clear hl hb hk q0 q1 q2 q3 q4 q5 q6 q7 q8 X3 L3 H3
      go_wp2
      go_loopw [11] (fun i wr => i = .int .i64 0 ∧ wr = (w4.alloc (.cells #[.string (txt []), .int .i64 0, .int .i64 0, .int .u64 0, .int .u64 0, .slice B4 0 m4, .bool false, .int .i64 0, .slice A4 0 c4] 33))) (fun _ _ => 0)
      case atStart => exact ⟨rfl, rfl⟩
      case round =>
        obtain ⟨rfl, rfl⟩ := hrel
        have q5 := (X5.out.cell 5).trans rfl
        have q8 := (X5.out.cell 8).trans rfl
        go_wp2
        go_loopw [12] (fun i wr => i = .int .i64 0 ∧ wr = (w4.alloc (.cells #[.string (txt []), .int .i64 0, .int .i64 0, .int .u64 0, .int .u64 0, .slice B4 0 m4, .bool false, .int .i64 0, .slice A4 0 c4] 33))) (fun _ _ => 0)
        case atStart => exact ⟨rfl, rfl⟩
        case round =>
          obtain ⟨rfl, rfl⟩ := hrel
          go_wp2_with fail
          refine (M.out _ H5.out).mono ?_
          intro r w6 hr
          obtain ⟨B6, m6, A6, c6, rfl, hl, hb⟩ := hr.flat2 _ rfl 0 rfl 0 rfl
          have H6 : Hid (Below w.heap.size w (w6.alloc (.cells #[.string (txt []), .int .i64 0, .int .i64 0, .int .u64 0, .int .u64 0, .slice B6 0 m6, .bool false, .int .i64 0, .slice A6 0 c6] 27))) := Lib.hid ((H5.out.trans (hb.mono H5.out.size)).alloc (H5.out.trans (hb.mono H5.out.size)).size _)
          have X6 := Lib.hid ((X5.out.below hb X5.out.lt).alloc (.cells #[.string (txt []), .int .i64 0, .int .i64 0, .int .u64 0, .int .u64 0, .slice B6 0 m6, .bool false, .int .i64 0, .slice A6 0 c6] 27))
          have q8 := (X6.out.cell 8).trans rfl
          clear hr hl hb
          go_wp2
          go_ret
          exact ⟨rfl, H6.out⟩

end Go.Proofs.Ytkpbjgjflabloaa
