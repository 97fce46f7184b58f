/-
  SpecOwn where what was told is a leaf with names, if package spec answers as it is to and the law is awake. Written by wip/tools/mk07own.py.
-/
import Derived.Test.YtkpbjgjflabloaaLaw07F
namespace Go.Proofs.Ytkpbjgjflabloaa
open Go.RowKit
set_option linter.unusedSimpArgs false
set_option linter.unusedVariables false

/-- A fact that no tactic looks through. -/
inductive Veil7 (P : Prop) : Prop where
  | mk (h : P) : Veil7 P
theorem Veil7.out {P : Prop} (h : Veil7 P) : P := by
  obtain ⟨h⟩ := h
  exact h
/-- A block of three cells at least from o on, that may be written. -/
def Three (w : World) (g o : Nat) : Prop := ∃ cur t, Blk w g t cur ∧ o + 3 ≤ cur.size
theorem Three.lt {w : World} {g o : Nat} (h : Three w g o) : g < w.heap.size := by
  obtain ⟨cur, t, h, _⟩ := h
  exact h.lt
theorem Three.below {w w' : World} {g o : Nat} (h : Three w g o) (hb : Below w.heap.size w w') : Three w' g o := by
  obtain ⟨cur, t, h1, h2⟩ := h
  exact ⟨cur, t, h1.below hb h1.lt, h2⟩
theorem Three.cell {w : World} {g o : Nat} (h : Three w g o) {j : Nat} (hj : j < 3) : (∃ u, w.cell? ⟨g, o + j, none⟩ = some u) ∧ w.frozen? ⟨g, o + j, none⟩ = false := by
  obtain ⟨cur, t, h1, h2⟩ := h
  exact ⟨⟨_, (h1.cell (o + j)).trans (Array.getElem?_eq_getElem (by omega))⟩, h1.frozen _⟩
theorem Three.set_ {w : World} {g o : Nat} (h : Three w g o) (i : Nat) (u : Value) : Three (w.setCell ⟨g, i, none⟩ u) g o := by
  obtain ⟨cur, t, h1, h2⟩ := h
  exact ⟨_, t, h1.set_ i u, by simpa using h2⟩
theorem SpP.names {nm : List UInt8} {kd ty lo hi : Nat} {mu : Bool} {mo : Nat} {w : World} {r : Ending} {w' : World} (h : SpP ((⟨nm, kd, ty, lo, hi, [nEdge, nCore, nLab], mu, mo⟩, .nil), 0) w r w') :
    ∃ g o m A c, r = .returned (.tuple #[.agg (flC nm kd ty lo hi (some ⟨g, o, none⟩) 3 m mu mo A 0 c).toArray, .int .i64 0]) ∧ Lies w' (flC nm kd ty lo hi (some ⟨g, o, none⟩) 3 m mu mo A 0 c) (⟨nm, kd, ty, lo, hi, [nEdge, nCore, nLab], mu, mo⟩, .nil) ∧ Below w.heap.size w w' ∧ w.heap.size ≤ g ∧ Three w' g o ∧ w'.cell? ⟨g, o, none⟩ = some (.string ⟨#[101, 100, 103, 101]⟩) := by
  obtain ⟨cs, rfl, hn, hb⟩ := h
  have hl := hn.lies
  obtain ⟨S, N, hS, hN, hx⟩ := hn
  obtain ⟨B, m, A, c, d, rfl, hv, hd, hk⟩ := hx.shape
  have hNd := hd (by show 0 < 3; omega)
  obtain ⟨⟨f0, cur, t, hblk⟩, -⟩ := hN d hNd
  obtain ⟨A', c', e, h1, h2⟩ := hv
  obtain ⟨hlt, off, rfl, hc⟩ := h2 (by show 0 < 3; omega)
  injection e with e1 e2 e3
  subst e1 e3
  refine ⟨d, off, m, A, c, rfl, hl, hb, f0, ⟨cur, t, hblk, ?_⟩, hc 0 _ rfl⟩
  have h3 := hc 2 _ rfl
  rw [Blk.cell (show Blk w' d t cur from hblk)] at h3
  have := (Array.getElem?_eq_some_iff.1 h3).1
  omega
set_option maxRecDepth 100000 in
set_option maxHeartbeats 4000000 in
theorem specOwn_names (v : Int) (hv0 : -9223372036854775808 ≤ v) (hv1 : v ≤ 9223372036854775807) (l : List (List UInt8)) (An : Option Addr) (cn L d : Nat) (w : World) (hn : Vals w d (.slice An l.length cn) (txts l)) (hL : L = l.length) (hc : L ≤ 20) (nm : List UInt8) (kd ty lo hi : Nat) (mu : Bool) (mo : Nat) (hX : atX v l = ((⟨nm, kd, ty, lo, hi, [nEdge, nCore, nLab], mu, mo⟩, .nil), 0)) (C : SpcC w) (HA : Awake7 w) :
    Calls Try.prog 6 #[.int .i64 v, .slice An L cn] w fun e w' => e = .returned (.bool true) ∧ Below w.heap.size w w' := by
  have HAW := Lib.hid (HA w (Below.refl _ _))
  have i0 : ¬ (20 : Int) < (L : Int) := by omega
  have M := Lib.hid (fun (W : World) (h : Below w.heap.size w W) => show Calls Try.prog 10 #[.int .i64 v, .slice An L cn] W (SpP ((⟨nm, kd, ty, lo, hi, [nEdge, nCore, nLab], mu, mo⟩, .nil), 0) W) from by
      rw [hL]
      have h3 := C.at_ v l d _ W hv0 hv1 (by omega) (hn.kept_ h) h
      rw [hX] at h3
      exact h3)
  have FX : Hid (Few (⟨nm, kd, ty, lo, hi, [nEdge, nCore, nLab], mu, mo⟩, .nil)) := Lib.hid (by have h := few_at v l; rw [hX] at h; exact h)
  clear HA C hn hL hX hc hv0 hv1
  go_enter Try.func6, Try.ntmps6
  go_wp2_with fail
  refine HAW.out.mono ?_
  rintro r w1 ⟨rfl, hB1⟩
  have H1 := Lib.hid hB1
  clear hB1
  go_wp2_with fail
  refine (M.out _ H1.out).mono ?_
  intro r w2 hr
  obtain ⟨g2, o2, m2, A2, c2, rfl, hl, hb, hg, hth, -⟩ := SpP.names hr
  have H2 := Lib.hid (H1.out.trans (hb.mono H1.out.size))
  have G2 : Hid (w.heap.size ≤ g2) := Lib.hid (Nat.le_trans H1.out.size hg)
  have T2 := Lib.hid hth
  have G3 : Hid (g2 ≠ w2.heap.size) := Lib.hid (Nat.ne_of_lt hth.lt)
  have H3 : Hid (Below w.heap.size w (w2.alloc (.cells #[.string (txt nm), .int .i64 (kd : Int), .int .i64 (ty : Int), .int .u64 (lo : Int), .int .u64 (hi : Int), .slice (some ⟨g2, o2, none⟩) 3 m2, .bool mu, .int .i64 (mo : Int), .slice A2 0 c2] 27))) := Lib.hid (H2.out.alloc H2.out.size _)
  have T3 : Hid (Three (w2.alloc (.cells #[.string (txt nm), .int .i64 (kd : Int), .int .i64 (ty : Int), .int .u64 (lo : Int), .int .u64 (hi : Int), .slice (some ⟨g2, o2, none⟩) 3 m2, .bool mu, .int .i64 (mo : Int), .slice A2 0 c2] 27)) g2 o2) := Lib.hid (T2.out.below ((Below.refl _ _).alloc (Nat.le_refl _) _))
  have L3 : Hid (Lies (w2.alloc (.cells #[.string (txt nm), .int .i64 (kd : Int), .int .i64 (ty : Int), .int .u64 (lo : Int), .int .u64 (hi : Int), .slice (some ⟨g2, o2, none⟩) 3 m2, .bool mu, .int .i64 (mo : Int), .slice A2 0 c2] 27)) [.string (txt nm), .int .i64 (kd : Int), .int .i64 (ty : Int), .int .u64 (lo : Int), .int .u64 (hi : Int), .slice (some ⟨g2, o2, none⟩) 3 m2, .bool mu, .int .i64 (mo : Int), .slice A2 0 c2] (⟨nm, kd, ty, lo, hi, [nEdge, nCore, nLab], mu, mo⟩, .nil)) := Lib.hid (hl.below ((Below.refl _ _).alloc (Nat.le_refl _) _))
  have X3 : Hid (Blk (w2.alloc (.cells #[.string (txt nm), .int .i64 (kd : Int), .int .i64 (ty : Int), .int .u64 (lo : Int), .int .u64 (hi : Int), .slice (some ⟨g2, o2, none⟩) 3 m2, .bool mu, .int .i64 (mo : Int), .slice A2 0 c2] 27)) w2.heap.size 27 #[.string (txt nm), .int .i64 (kd : Int), .int .i64 (ty : Int), .int .u64 (lo : Int), .int .u64 (hi : Int), .slice (some ⟨g2, o2, none⟩) 3 m2, .bool mu, .int .i64 (mo : Int), .slice A2 0 c2]) := Lib.hid (Blk.new _ _ _)
  clear hr hl hb hg hth H2 T2
  go_wp2
  go_loopw [8] (fun i wr => i = .int .i64 0 ∧ wr = (w2.alloc (.cells #[.string (txt nm), .int .i64 (kd : Int), .int .i64 (ty : Int), .int .u64 (lo : Int), .int .u64 (hi : Int), .slice (some ⟨g2, o2, none⟩) 3 m2, .bool mu, .int .i64 (mo : Int), .slice A2 0 c2] 27))) (fun _ _ => 0)
  case atStart => exact ⟨rfl, rfl⟩
  case round =>
    obtain ⟨rfl, rfl⟩ := hrel
    have q0 := (X3.out.cell 0).trans rfl
    have q1 := (X3.out.cell 1).trans rfl
    have q2 := (X3.out.cell 2).trans rfl
    have q3 := (X3.out.cell 3).trans rfl
    have q4 := (X3.out.cell 4).trans rfl
    have q5 := (X3.out.cell 5).trans rfl
    have q6 := (X3.out.cell 6).trans rfl
    have q7 := (X3.out.cell 7).trans rfl
    have q8 := (X3.out.cell 8).trans rfl
    go_wp2_with fail
    refine (plain_f 3 rfl 0 rfl L3.out FX.out).mono ?_
    rintro r w4 ⟨B4, m4, A4, c4, rfl, hl, hb⟩
    have hk : Below (w2.alloc (.cells #[.string (txt nm), .int .i64 (kd : Int), .int .i64 (ty : Int), .int .u64 (lo : Int), .int .u64 (hi : Int), .slice (some ⟨g2, o2, none⟩) 3 m2, .bool mu, .int .i64 (mo : Int), .slice A2 0 c2] 27)).heap.size (w2.alloc (.cells #[.string (txt nm), .int .i64 (kd : Int), .int .i64 (ty : Int), .int .u64 (lo : Int), .int .u64 (hi : Int), .slice (some ⟨g2, o2, none⟩) 3 m2, .bool mu, .int .i64 (mo : Int), .slice A2 0 c2] 27)) (w4.alloc (.cells #[.string (txt nm), .int .i64 (kd : Int), .int .i64 (ty : Int), .int .u64 (lo : Int), .int .u64 (hi : Int), .slice B4 3 m4, .bool mu, .int .i64 (mo : Int), .slice A4 0 c4] 33)) := hb.alloc hb.size _
    have H5 : Hid (Below w.heap.size w (w4.alloc (.cells #[.string (txt nm), .int .i64 (kd : Int), .int .i64 (ty : Int), .int .u64 (lo : Int), .int .u64 (hi : Int), .slice B4 3 m4, .bool mu, .int .i64 (mo : Int), .slice A4 0 c4] 33))) := Lib.hid (H3.out.trans (hk.mono H3.out.size))
    have X5 := Lib.hid (X3.out.below hk X3.out.lt)
    have T5 := Lib.hid (T3.out.below hk)
    have G5 : Hid (g2 ≠ w4.heap.size) := Lib.hid (Nat.ne_of_lt (Nat.lt_of_lt_of_le T3.out.lt hb.size))
    have Y5 : Hid (Blk (w4.alloc (.cells #[.string (txt nm), .int .i64 (kd : Int), .int .i64 (ty : Int), .int .u64 (lo : Int), .int .u64 (hi : Int), .slice B4 3 m4, .bool mu, .int .i64 (mo : Int), .slice A4 0 c4] 33)) w4.heap.size 33 #[.string (txt nm), .int .i64 (kd : Int), .int .i64 (ty : Int), .int .u64 (lo : Int), .int .u64 (hi : Int), .slice B4 3 m4, .bool mu, .int .i64 (mo : Int), .slice A4 0 c4]) := Lib.hid (Blk.new _ _ _)
    clear hl hb hk q0 q1 q2 q3 q4 q5 q6 q7 q8 X3 L3 H3 T3
    go_wp2
    go_loopw [11] (fun i wr => i = .int .i64 0 ∧ wr = (w4.alloc (.cells #[.string (txt nm), .int .i64 (kd : Int), .int .i64 (ty : Int), .int .u64 (lo : Int), .int .u64 (hi : Int), .slice B4 3 m4, .bool mu, .int .i64 (mo : Int), .slice A4 0 c4] 33))) (fun _ _ => 0)
    case atStart => exact ⟨rfl, rfl⟩
    case round =>
      obtain ⟨rfl, rfl⟩ := hrel
      have q8 := (X5.out.cell 8).trans rfl
      go_wp2
      go_loopw [12] (fun i wr => ∃ j : Nat, j ≤ 3 ∧ i = .int .i64 (j : Int) ∧ Hid (Blk wr w2.heap.size 27 #[.string (txt nm), .int .i64 (kd : Int), .int .i64 (ty : Int), .int .u64 (lo : Int), .int .u64 (hi : Int), .slice (some ⟨g2, o2, none⟩) 3 m2, .bool mu, .int .i64 (mo : Int), .slice A2 0 c2]) ∧ Hid (Blk wr w4.heap.size 33 #[.string (txt nm), .int .i64 (kd : Int), .int .i64 (ty : Int), .int .u64 (lo : Int), .int .u64 (hi : Int), .slice B4 3 m4, .bool mu, .int .i64 (mo : Int), .slice A4 0 c4]) ∧ Hid (Below w.heap.size w wr) ∧ Hid (Three wr g2 o2)) (fun i _ => 3 - (intOf i).toNat)
      case atStart => exact ⟨0, by omega, rfl, X5, Y5, H5, T5⟩
      case round =>
        obtain ⟨j, hj, rfl, XR, YR, HR, TR⟩ := hrel
        clear q8
        have q5 : wr.cell? ⟨w2.heap.size, 5, none⟩ = some (.slice (some ⟨g2, o2, none⟩) 3 m2) := (XR.out.cell 5).trans rfl
        by_cases hlt : j < 3
        · obtain ⟨⟨u, hu⟩, hf⟩ := TR.out.cell hlt
          have i1 : (0 : Int) ≤ (j : Int) := by omega
          have i2 : (j : Int) < 3 := by omega
          have XS := Veil7.mk (XR.out.far (p := ⟨g2, o2 + j, none⟩) (Ne.symm G3.out) (.string ⟨#[121]⟩))
          have YS := Veil7.mk (YR.out.far (p := ⟨g2, o2 + j, none⟩) (Ne.symm G5.out) (.string ⟨#[121]⟩))
          have TSS := Veil7.mk (TR.out.set_ (o2 + j) (.string ⟨#[121]⟩))
          have HS := Veil7.mk (HR.out.setCell (p := ⟨g2, o2 + j, none⟩) G2.out (.string ⟨#[121]⟩))
          clear XR YR HR TR X5 Y5 H5 T5
          go_wp2
          go_roundw
          case rel => exact ⟨j + 1, by omega, by go_num, Lib.hid XS.out, Lib.hid YS.out, Lib.hid HS.out, Lib.hid TSS.out⟩
          case measure => simp [intOf]; omega
        · have i2 : ¬ (j : Int) < 3 := by omega
          clear X5 Y5 H5 T5
          go_wp2_with fail
          refine (M.out _ HR.out).mono ?_
          intro r w6 hr
          obtain ⟨g6, o6, m6, A6, c6, rfl, hl, hb, hg, hth, hce⟩ := SpP.names hr
          have hk : Below wr.heap.size wr (w6.alloc (.cells #[.string (txt nm), .int .i64 (kd : Int), .int .i64 (ty : Int), .int .u64 (lo : Int), .int .u64 (hi : Int), .slice (some ⟨g6, o6, none⟩) 3 m6, .bool mu, .int .i64 (mo : Int), .slice A6 0 c6] 27)) := hb.alloc hb.size _
          have H7 : Hid (Below w.heap.size w (w6.alloc (.cells #[.string (txt nm), .int .i64 (kd : Int), .int .i64 (ty : Int), .int .u64 (lo : Int), .int .u64 (hi : Int), .slice (some ⟨g6, o6, none⟩) 3 m6, .bool mu, .int .i64 (mo : Int), .slice A6 0 c6] 27))) := Lib.hid (HR.out.trans (hk.mono HR.out.size))
          have p5 : (w6.alloc (.cells #[.string (txt nm), .int .i64 (kd : Int), .int .i64 (ty : Int), .int .u64 (lo : Int), .int .u64 (hi : Int), .slice (some ⟨g6, o6, none⟩) 3 m6, .bool mu, .int .i64 (mo : Int), .slice A6 0 c6] 27)).cell? ⟨w4.heap.size, 5, none⟩ = some (.slice B4 3 m4) := ((YR.out.below hk YR.out.lt).cell 5).trans rfl
          have p0 : (w6.alloc (.cells #[.string (txt nm), .int .i64 (kd : Int), .int .i64 (ty : Int), .int .u64 (lo : Int), .int .u64 (hi : Int), .slice (some ⟨g6, o6, none⟩) 3 m6, .bool mu, .int .i64 (mo : Int), .slice A6 0 c6] 27)).cell? ⟨g6, o6, none⟩ = some (.string ⟨#[101, 100, 103, 101]⟩) := (((Below.refl w6.heap.size w6).alloc (Nat.le_refl _) (.cells #[.string (txt nm), .int .i64 (kd : Int), .int .i64 (ty : Int), .int .u64 (lo : Int), .int .u64 (hi : Int), .slice (some ⟨g6, o6, none⟩) 3 m6, .bool mu, .int .i64 (mo : Int), .slice A6 0 c6] 27)).cell (p := ⟨g6, o6, none⟩) hth.lt).trans hce
          clear hr hl hb hg hth hce hk XR YR HR TR q5 FX
          go_wp2
          go_ret
          exact ⟨rfl, H7.out⟩

end Go.Proofs.Ytkpbjgjflabloaa
