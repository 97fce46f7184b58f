/-
  strconv.ParseUint at base ten and 64 bits, and scalar.Uint. No condition but those of each theorem.
-/
import Derived.Test.YtpaapjafnjipfaaDoorStvLayB
import Derived.Test.YtpaapjafnjipfaaDoorStvFmt
namespace Go.Proofs.YtpaapjafnjipfaaDoor
open Go.RowKit Go.Shelf
set_option linter.unusedSimpArgs false

def PrsP (s : List UInt8) (w : World) (r : Ending) (w' : World) : Prop :=
  Below w.heap.size w w' ∧ ((∃ u, Lib.parseUintB 64 s = .ok u ∧ r = .returned (.tuple #[.int .u64 (u : Int), .nilIface])) ∨
    ((∀ u, Lib.parseUintB 64 s ≠ .ok u) ∧ ∃ (x N : Nat), r = .returned (.tuple #[.int .u64 (x : Int), .iface 50 (.pointer (some ⟨N, 0, none⟩))])))
theorem parse_any (s : List UInt8) (hs : s.length ≤ 100000) (w : World) (hT : Tab6 w) :
    Calls Tryd.prog 18 #[.string (txt s), .int .i64 10, .int .i64 64] w (PrsP s w) := by
  have hd : (txt s).data.toList = s := rfl
  have hsz := txt_size s
  rcases hp : Lib.parseUintB 64 s with u | _ | _
  ·
    refine (Any.strconv_ParseUint_10_at64_ok slPu (txt s) (by omega) u (by rw [hd]; exact hp) w).mono ?_
    rintro e w' ⟨rfl, hw⟩
    refine ⟨?_, .inl ⟨u, hp, rfl⟩⟩
    rcases hw with rfl | rfl
    · exact Below.refl _ _
    · exact Lib.bytesWorld_below _ _ _
  ·
    obtain ⟨tp, p, hv⟩ := hT.syn
    refine (Any.strconv_ParseUint_10_at64_syntax slPu (txt s) (by omega) (by rw [hd]; exact hp) (.iface tp p) w ?_ (.inr ⟨tp, p, rfl⟩)).mono ?_
    · have h0 : w.cell? ⟨1, 0, none⟩ = some (.iface tp p) := by have h0 := World.var?_cell gSyn hv 0; simpa using h0
      exact h0
    · rintro e w' ⟨N, rfl, _, _, hB⟩
      exact ⟨hB, .inr ⟨(fun u h => by rw [hp] at h; cases h), 0, N, rfl⟩⟩
  ·
    obtain ⟨tp, p, hv⟩ := hT.rng
    refine (Any.strconv_ParseUint_10_at64_range slPu (txt s) (by omega) (by rw [hd]; exact hp) (.iface tp p) w ?_ (.inr ⟨tp, p, rfl⟩)).mono ?_
    · have h0 : w.cell? ⟨2, 0, none⟩ = some (.iface tp p) := by have h0 := World.var?_cell gRng hv 0; simpa using h0
      exact h0
    · rintro e w' ⟨N, rfl, _, _, hB⟩
      exact ⟨hB, .inr ⟨(fun u h => by rw [hp] at h; cases h), 18446744073709551615, N, rfl⟩⟩

def UintP (s : List UInt8) (w : World) (r : Ending) (w' : World) : Prop := r = .returned (optR (uintX s)) ∧ Below w.heap.size w w'
set_option maxHeartbeats 2000000 in
set_option maxRecDepth 100000 in
/-- scalar.Uint. -/
theorem uint_any (s : List UInt8) (hs : s.length ≤ 100000) (w : World) (hT : Tab6 w) :
    Calls Tryd.prog 8 #[.string (txt s)] w (UintP s w) := by
  have HP := Lib.hid (parse_any s hs w hT)
  have HT := Lib.hid hT
  have ts : (txt s).toList = s := txt_toList s
  clear hT
  go_enter Tryd.func8, Tryd.ntmps8
  go_wp2_with fail
  refine HP.out.mono ?_
  rintro r w1 ⟨hB, h⟩
  have HB := Lib.hid hB
  have HT1 := Lib.hid (HT.out.below hB)
  clear hB HP
  rcases h with ⟨u, hu, rfl⟩ | ⟨hno, x, N, rfl⟩
  · have HU := Lib.hid (uint_parse_ok hu)
    have HS : Hid (Calls Tryd.prog 14 #[.int .u64 (u : Int)] w1 fun r w' => r = .returned (.string (txt (dec u))) ∧ Below w1.heap.size w1 w') := Lib.hid (shows_any u (parse_lt hu) w1 HT1.out)
    have td : (txt (dec u)).toList = dec u := txt_toList (dec u)
    clear hu
    go_wp2_with fail
    refine HS.out.mono ?_
    rintro r w2 ⟨rfl, hB⟩
    have HB2 := Lib.hid (HB.out.trans (hB.mono HB.out.size))
    clear hB HS
    by_cases e : dec u = s
    · have e1 : (dec u == s) = true := beq_iff_eq.2 e
      have e2 : (dec u != s) = false := by unfold bne; rw [e1]; rfl
      have HV : Hid (uintX s = some u) := Lib.hid (by rw [HU.out, if_pos e])
      clear e HU
      go_wp2
      go_ret2
      exact ⟨by rw [HV.out]; rfl, HB2.out⟩
    · have e1 : (dec u == s) = false := beq_eq_false_iff_ne.2 e
      have e2 : (dec u != s) = true := by unfold bne; rw [e1]; rfl
      have HV : Hid (uintX s = none) := Lib.hid (by rw [HU.out, if_neg e])
      clear e HU
      go_wp2
      go_ret2
      exact ⟨by rw [HV.out]; rfl, HB2.out⟩
  · have HV : Hid (uintX s = none) := Lib.hid (uint_parse_bad hno)
    clear hno
    go_wp2
    go_ret2
    exact ⟨by rw [HV.out]; rfl, HB.out⟩
end Go.Proofs.YtpaapjafnjipfaaDoor
