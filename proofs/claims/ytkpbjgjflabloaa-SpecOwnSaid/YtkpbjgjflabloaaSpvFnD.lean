/-
  What slices.Insert answers behind the last thing, and what package spec's closures of a name, and of a kid more, do. No condition but those of each theorem.
-/
import Derived.Test.YtkpbjgjflabloaaSpvFnA
import Derived.Test.YtkpbjgjflabloaaSpvFnB
namespace Go.Proofs.Ytkpbjgjflabloaa
open Go.RowKit
set_option linter.unusedSimpArgs false
set_option linter.unusedVariables false

theorem infoP : (Try.prog.info? 27).map (fun i => (i.zero, i.size, i.bytes)) = some (some (.agg #[.string ⟨#[]⟩, .int .i64 0, .int .i64 0, .int .u64 0, .int .u64 0, .slice none 0 0, .bool false, .int .i64 0, .slice none 0 0]), 9, 112) := by kernel_rfl
def InsP (base b c n : Nat) (xs : List Value) (w : World) (r : Ending) (w' : World) : Prop := ∃ v', r = .returned v' ∧ AppK 27 9 w base (.slice (some ⟨b, 0, none⟩) n c) (n + 1) xs v' w'
set_option maxRecDepth 100000 in
set_option maxHeartbeats 2000000 in
theorem ins_any (b c n g base : Nat) (xs ys : List Value) (w : World) (hown : OwnK 27 9 w base (.slice (some ⟨b, 0, none⟩) n c) n xs) (hblk : Blk w g 27 ys.toArray) (hys : ys.length = 9) (hone : ∀ u ∈ ys, u.oneCell' = true) (hn : n ≤ 1000) (hb : base ≤ w.heap.size) :
    Calls Try.prog 39 #[.slice (some ⟨b, 0, none⟩) n c, .int .i64 (n : Int), .slice (some ⟨g, 0, none⟩) 1 1] w (InsP base b c n (xs ++ ys) w) := by
  have hnc : n ≤ c := by
    rcases hown.2 with ⟨h, _⟩ | ⟨g', cap, cur, h, _, _, hnc, _⟩
    · cases h
    · injection h with _ _ h3; rw [h3]; exact hnc
  have HO := Lib.hid hown
  have HG := Lib.hid hblk
  have HY := Lib.hid hys
  have HN := Lib.hid hone
  have i0 : (0 : Int) ≤ (n : Int) := by omega
  have i1 : (n : Int) ≤ 1000 := by omega
  clear hown hblk hys hone
  by_cases hcn : c = n
  · subst hcn
    clear hnc
    go_enter Try.func39, Try.ntmps39
    go_wp2_with (at_builtin; refine wpList_append_k (P := Try.prog) (ts := 25) Try.underlying25 infoP zeroS (by omega) rfl _ _ rfl rfl base (.slice (some ⟨b, 0, none⟩) c c) c xs rfl HO.out g rfl ys HG.out HY.out HN.out (by omega) (by omega) hb ?_; intro v' w' hap)
    go_ret
    exact ⟨_, rfl, hap⟩
  · have hlt : n < c := by omega
    clear hcn
    go_enter Try.func39, Try.ntmps39
    go_wp2_with (at_builtin; refine wpList_append_k (P := Try.prog) (ts := 25) Try.underlying25 infoP zeroS (by omega) rfl _ _ rfl rfl base (.slice (some ⟨b, 0, none⟩) n c) n xs rfl HO.out g rfl ys HG.out HY.out HN.out (by omega) (by omega) hb ?_; intro v' w' hap)
    go_ret
    exact ⟨_, rfl, hap⟩

set_option maxRecDepth 100000 in
set_option maxHeartbeats 1000000 in
theorem named1_any (n : List UInt8) (base B p : Nat) (R : Nat → Prop) (F : List Nat) (cs : List Value) (x : Sp) (w : World) (h : Sit w base R B F cs x) (hp : Blk w p 9 #[.string (txt n)]) :
    Calls Try.prog 40 #[.pointer (some ⟨B, 0, none⟩), .pointer (some ⟨p, 0, none⟩)] w (ChgP base R B F ({ x.1 with name := n }, x.2) w) := by
  have HS := Lib.hid (named_sit n h)
  obtain ⟨nv, kv, d, e, -⟩ : ∃ nv kv, ∃ d : Nat, cs = [.string (txt x.1.name), .int .i64 (x.1.kind : Int), .int .i64 (x.1.typ : Int), .int .u64 (x.1.low : Int), .int .u64 (x.1.high : Int), nv, .bool x.1.must, .int .i64 (x.1.most : Int), kv] ∧ True := by
    obtain ⟨v, _, ⟨nv, kv, d, e, _⟩, _⟩ := h.own
    exact ⟨nv, kv, d, e, trivial⟩
  have q0 : w.cell? ⟨B, 0, none⟩ = some (.string (txt x.1.name)) := by rw [h.box.cell, e]; rfl
  have f0 : w.frozen? ⟨B, 0, none⟩ = false := h.box.frozen 0
  have p0 : w.cell? ⟨p, 0, none⟩ = some (.string (txt n)) := hp.cell 0
  clear h hp e
  go_enter Try.func40, Try.ntmps40
  go_wp2
  go_end0
  exact ⟨rfl, HS.out⟩

end Go.Proofs.Ytkpbjgjflabloaa
