/-
  What package tlv's Size and Check answer. No condition but those of each theorem.
-/
import Derived.Test.YtdpaijechogmlaaTlvFnC
import Derived.Test.YtdpaijechogmlaaTlvSpec
import Derived.Laws.EntriesVeiled
namespace Go.Proofs.Ytdpaijechogmlaa
open Go.RowKit
set_option linter.unusedSimpArgs false

theorem lo_lt {w w' : World} {v : Value} {f : Fo} (h : FV DataI w (Lo w) v f) (hb : Below w.heap.size w w') : FV DataI w' (Lt w.heap.size) v f := h.kept stays_I (fun g hg => hb.block g hg) (fun _ hg => hg)
theorem below_of_grown {w w0 w' : World} {g : Nat} (h0 : Below w.heap.size w w0) (hg : w0.grownBy w' (some g)) (hw : w.heap.size ≤ g) : Below w.heap.size w w' := by
  refine h0.grown hg h0.size fun k e => ?_
  injection e with e
  omega

def SizeO (f : Fo) (w : World) (r : Ending) (w' : World) : Prop := r = .returned (.int .i64 (f.all.length : Int)) ∧ Below w.heap.size w w'

set_option maxHeartbeats 1000000 in
theorem size_cnt (f : Fo) (w : World) (v : Value) (hv : FV DataI w (Lo w) v f) (hsz : f.sz ≤ 1099511627776) (hc : f.cnt ≤ 60000) : Calls Try.prog 15 #[v] w (SizeO f w) := by
  have hmf : ∀ (fn : Fn) (first cap : Array Value) (w : World), (Instr.makeFunc fn first cap).run Try.prog w = .ok (.func fn first cap) w := fun _ _ _ _ => rfl
  obtain ⟨A, c, rfl⟩ := hv.shape
  go_enter Try.func15, Try.ntmps15
  go_wp2_with fail
  have b1 : Blk (w.alloc (.cells #[.int .i64 0] 3)) w.heap.size 3 #[.int .i64 ((0 : Nat) : Int)] := Blk.new _ _ _
  have b2 := Blk.new (w.alloc (.cells #[.int .i64 0] 3)) 54 #[.func (.func 26) #[] #[.pointer (some ⟨w.heap.size, 0, none⟩), .pointer (some ⟨w.heap.size + 1, 0, none⟩)]]
  rw [World.size_alloc] at b2
  have hB' : Below w.heap.size w ((w.alloc (.cells #[.int .i64 0] 3)).alloc (.cells #[.func (.func 26) #[] #[.pointer (some ⟨w.heap.size, 0, none⟩), .pointer (some ⟨w.heap.size + 1, 0, none⟩)]] 54)) := ((Below.refl _ w).alloc (Nat.le_refl _) _).alloc (by simp) _
  have hv' := lo_lt hv hB'
  have z := hB'.size
  refine (size1_any f _ _ w.heap.size w.heap.size (w.heap.size + 1) 1 0 1 hv' hsz (by omega) (by omega) rfl (Nat.le_refl _) (by omega) z (by omega) (b1.alloc _) b2).mono ?_
  rintro r w1 ⟨rfl, hg, q, -, -⟩
  have hB1 := below_of_grown hB' hg (Nat.le_refl _)
  clear hg hB' hv'
  go_wp2
  go_ret
  exact ⟨rfl, hB1⟩

theorem sizeC : SizeC := fun f w v hv hsz hw => size_cnt f w v hv hsz (by have := f.cnt_le_wt; omega)

set_option maxHeartbeats 1000000 in
theorem checkC : CheckC := by
  intro f w v hv hsz
  have hmf : ∀ (fn : Fn) (first cap : Array Value) (w : World), (Instr.makeFunc fn first cap).run Try.prog w = .ok (.func fn first cap) w := fun _ _ _ _ => rfl
  obtain ⟨A, c, rfl⟩ := hv.shape
  have HO : Hid (f.ok = (Fo.right 1 f && decide (f.all.length ≤ 8192))) := Lib.hid rfl
  have hal : f.all.length ≤ 22000000000000 := by have := f.all_le; omega
  go_enter Try.func13, Try.ntmps13
  go_wp2_with fail
  have b1 : Blk (w.alloc (.cells #[.int .i64 0] 3)) w.heap.size 3 #[.int .i64 ((0 : Nat) : Int)] := Blk.new _ _ _
  have b2 := Blk.new (w.alloc (.cells #[.int .i64 0] 3)) 52 #[.func (.func 23) #[] #[.pointer (some ⟨w.heap.size, 0, none⟩), .pointer (some ⟨w.heap.size + 1, 0, none⟩)]]
  rw [World.size_alloc] at b2
  have hB' : Below w.heap.size w ((w.alloc (.cells #[.int .i64 0] 3)).alloc (.cells #[.func (.func 23) #[] #[.pointer (some ⟨w.heap.size, 0, none⟩), .pointer (some ⟨w.heap.size + 1, 0, none⟩)]] 52)) := ((Below.refl _ w).alloc (Nat.le_refl _) _).alloc (by simp) _
  have hv' := lo_lt hv hB'
  have z := hB'.size
  refine (sound_any f _ _ w.heap.size w.heap.size (w.heap.size + 1) 1 0 1 hv' hsz (by omega) rfl (by omega) (Nat.le_refl _) (by omega) z (by omega) (b1.alloc _) b2).mono ?_
  rintro r w1 ⟨b, rfl, hb, hg, -⟩
  have hB1 := below_of_grown hB' hg (Nat.le_refl _)
  have HB := Lib.hid hb
  clear hg hB' hv' b1 b2 z hb
  cases b with
  | false =>
    have HP : Hid (f.ok = false) := Lib.hid (by
      rw [HO.out]
      cases hr : Fo.right 1 f with
      | false => rfl
      | true =>
        have h := HB.out
        rw [hr, Bool.true_and] at h
        have h2 : ¬ 0 + f.cnt ≤ 4096 := of_decide_eq_false h.symm
        have h3 := Fo.cnt_all f 1 hr
        rw [Bool.true_and, show decide (f.all.length ≤ 8192) = false from decide_eq_false (by omega)])
    go_wp2
    go_ret
    exact ⟨by rw [HP.out]; rfl, hB1⟩
  | true =>
    have h := HB.out.symm
    rw [Bool.and_eq_true, decide_eq_true_eq] at h
    obtain ⟨hr, hcn⟩ := h
    have HP : Hid (f.ok = decide ((f.all.length : Int) ≤ 8192)) := Lib.hid (by
      rw [HO.out, hr, Bool.true_and]
      rw [Bool.eq_iff_iff]; simp; omega)
    have hv1 : FV DataI w1 (Lo w1) (.slice A f.len c) f := hv.kept stays_I (fun g hg => hB1.block g hg) (fun _ hg => Nat.lt_of_lt_of_le hg hB1.size)
    have HC := Lib.hid (size_cnt f w1 _ hv1 hsz (by omega))
    clear hr hcn hv1
    go_wp2_with fail
    refine HC.out.mono ?_
    rintro r w2 ⟨rfl, hb2⟩
    go_wp2
    go_ret
    exact ⟨by rw [HP.out]; rfl, hB1.trans (hb2.mono hB1.size)⟩

end Go.Proofs.Ytdpaijechogmlaa
