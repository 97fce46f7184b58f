/-
  What the document's Check and Put answer for items (package tollbarref03). No condition but those of each theorem.
-/
import Derived.Test.YtdpaijechogmlaaTlvRight
namespace Go.Proofs.Ytdpaijechogmlaa
open Go.RowKit
set_option linter.unusedSimpArgs false

/-- May items be put? -/
def Fo.ok (f : Fo) : Bool := Fo.right 1 f && decide (f.all.length ≤ 8192)

def RCheckPost (f : Fo) (w : World) (r : Ending) (w' : World) : Prop := r = .returned (.bool f.ok) ∧ Below w.heap.size w w'
theorem rcheck_any (f : Fo) (w : World) (v : Value) (hv : FV DataR w (Lo w) v f) (hsz : f.sz ≤ 1099511627776) : Calls Try.prog 14 #[v] w (RCheckPost f w) := by
  have hs := txt_size f.all
  cases hr : Fo.right 1 f with
  | false =>
    have HO : Hid (f.ok = false) := Lib.hid (by unfold Fo.ok; rw [hr]; rfl)
    have HC : Hid (Calls Try.prog 25 #[v, .int .i64 1] w (fun r w' => r = .returned (.bool false) ∧ Below w.heap.size w w')) := Lib.hid (by
      have h := right_any f w v 1 1 hv hsz (by omega) rfl
      unfold RightPost at h
      rw [hr] at h
      exact h)
    clear hr
    go_enter Try.func14, Try.ntmps14
    go_wp2_with fail
    refine HC.out.mono ?_
    rintro r w1 ⟨rfl, hb⟩
    go_wp2
    go_ret
    exact ⟨by rw [HO.out]; rfl, hb⟩
  | true =>
    have HO : Hid (f.ok = decide (f.all.length ≤ 8192)) := Lib.hid (by unfold Fo.ok; rw [hr]; rfl)
    have HC : Hid (Calls Try.prog 25 #[v, .int .i64 1] w (fun r w' => r = .returned (.bool true) ∧ Below w.heap.size w w')) := Lib.hid (by
      have h := right_any f w v 1 1 hv hsz (by omega) rfl
      unfold RightPost at h
      rw [hr] at h
      exact h)
    clear hr
    have hdd : decide ((f.all.length : Int) ≤ 8192) = decide (f.all.length ≤ 8192) := by
      by_cases h : f.all.length ≤ 8192
      · rw [decide_eq_true h, decide_eq_true (by omega)]
      · rw [decide_eq_false h, decide_eq_false (by omega)]
    have HD := Lib.hid hdd
    clear hdd
    go_enter Try.func14, Try.ntmps14
    go_wp2_with fail
    refine HC.out.mono ?_
    rintro r w1 ⟨rfl, hb⟩
    have hv1 := FV.below stays_R hv hb
    go_wp2_with fail
    refine (all_any f _ _ hv1 hsz).mono ?_
    rintro r w2 ⟨rfl, hb2⟩
    have hB := hb.trans (hb2.mono hb.size)
    clear hb hb2 hv1 hv
    go_wp2
    go_ret
    refine ⟨?_, hB⟩
    rw [HO.out, ← HD.out]
    rfl

def putOut (f : Fo) : Ending := if f.ok then .returned (.tuple #[.string (txt f.all), .int .i64 0]) else .returned (.tuple #[.string ⟨#[]⟩, .int .i64 1])
def RPut3Post (f : Fo) (w : World) (r : Ending) (w' : World) : Prop := r = putOut f ∧ Below w.heap.size w w'
theorem rput3_any (f : Fo) (w : World) (v : Value) (hv : FV DataR w (Lo w) v f) (hsz : f.sz ≤ 1099511627776) : Calls Try.prog 12 #[v] w (RPut3Post f w) := by
  cases hr : f.ok with
  | false =>
    have HO : Hid (putOut f = .returned (.tuple #[.string ⟨#[]⟩, .int .i64 1])) := Lib.hid (by unfold putOut; rw [hr]; rfl)
    have HC : Hid (Calls Try.prog 14 #[v] w (fun r w' => r = .returned (.bool false) ∧ Below w.heap.size w w')) := Lib.hid (by
      have h := rcheck_any f w v hv hsz
      unfold RCheckPost at h
      rw [hr] at h
      exact h)
    clear hr
    go_enter Try.func12, Try.ntmps12
    go_wp2_with fail
    refine HC.out.mono ?_
    rintro r w1 ⟨rfl, hb⟩
    go_wp2
    go_ret2
    exact ⟨by rw [HO.out]; rfl, hb⟩
  | true =>
    have HO : Hid (putOut f = .returned (.tuple #[.string (txt f.all), .int .i64 0])) := Lib.hid (by unfold putOut; rw [hr]; rfl)
    have HC : Hid (Calls Try.prog 14 #[v] w (fun r w' => r = .returned (.bool true) ∧ Below w.heap.size w w')) := Lib.hid (by
      have h := rcheck_any f w v hv hsz
      unfold RCheckPost at h
      rw [hr] at h
      exact h)
    clear hr
    go_enter Try.func12, Try.ntmps12
    go_wp2_with fail
    refine HC.out.mono ?_
    rintro r w1 ⟨rfl, hb⟩
    have hv1 := FV.below stays_R hv hb
    go_wp2_with fail
    refine (all_any f _ _ hv1 hsz).mono ?_
    rintro r w2 ⟨rfl, hb2⟩
    have hB := hb.trans (hb2.mono hb.size)
    clear hb hb2 hv1 hv
    go_wp2
    go_ret2
    exact ⟨by rw [HO.out]; rfl, hB⟩

end Go.Proofs.Ytdpaijechogmlaa
