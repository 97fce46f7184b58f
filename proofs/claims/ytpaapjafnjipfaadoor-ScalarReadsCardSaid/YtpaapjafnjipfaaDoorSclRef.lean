/-
  What the document's ShowUint, Uint, Rate, ShowRate and Ident (package tollbarref06) answer. No condition but those of each theorem.
-/
import Derived.Test.YtpaapjafnjipfaaDoorSclNum
import Derived.Test.YtpaapjafnjipfaaDoorOctRefB
import Derived.Outline
namespace Go.Proofs.YtpaapjafnjipfaaDoor
open Go.RowKit
set_option linter.unusedSimpArgs false

theorem txt_catS (a b : List UInt8) : txt a ++ txt b = txt (a ++ b) := by
  apply txt_ext
  rw [ByteArray.data_append, Array.toList_append, txt_data, txt_data, txt_data]
theorem digit_str (W : World) (d : Nat) (b : UInt8) (hb : b.toNat = 48 + d) : (convert 30 9 (.slice (some ⟨W.heap.size, 0, none⟩) 1 1)).run Tryd.prog (W.alloc (.cells #[.int .u8 (48 + (d : Int))] 5)) = .ok (.string (txt [b])) (W.alloc (.cells #[.int .u8 (48 + (d : Int))] 5)) := by
  have hb : byteV b = .int .u8 (48 + (d : Int)) := by
    unfold byteV
    rw [hb]
    rfl
  rw [← hb]
  exact str_of (Rd.of_blk (l := [b]) (Blk.new W 5 _) (by simp))

def RShowP (x : Nat) (w : World) (r : Ending) (w' : World) : Prop := r = .returned (.string (txt (dec x))) ∧ Below w.heap.size w w'
set_option maxRecDepth 100000 in
set_option maxHeartbeats 1000000 in
theorem rshow_any (x : Nat) (hx : x < 18446744073709551616) (w : World) : Calls Tryd.prog 16 #[.int .u64 (x : Int)] w (RShowP x w) := by
  obtain ⟨d, hd⟩ : ∃ d, d = x % 10 := ⟨_, rfl⟩
  have hdI : (x : Int) % 10 = (d : Int) := by omega
  have hdT : (x : Int).tmod 10 = (d : Int) := by rw [Int.tmod_eq_emod_of_nonneg (by omega)]; omega
  have hd10 : d < 10 := by omega
  have h8 : (48 + (d : Int)) % 256 = 48 + (d : Int) := by omega
  obtain ⟨b, hb⟩ : ∃ b, b = dgB x := ⟨_, rfl⟩
  have hst := digit_str w d b (by rw [hb, dg_toNat, hd])
  have HD : Hid (dec x = decH x ++ [b]) := Lib.hid (by rw [dec_head_last, hb])
  clear hd hb
  go_enter Tryd.func16, Tryd.ntmps16
  go_wp2
  go_loopw [0, 3] (fun xv sv wr => ∃ (y : Nat) (s : List UInt8), y < 18446744073709551616 ∧ xv = .int .u64 (y : Int) ∧ sv = .string (txt s) ∧ s.length ≤ 20 ∧ Hid (dec x = decH y ++ s) ∧ Below w.heap.size w wr) (fun xv _ _ => (intOf xv).toNat)
  case atStart => exact ⟨x, [b], hx, rfl, rfl, by simp, HD, (Below.refl _ _).alloc (Nat.le_refl _) _⟩
  case round =>
    obtain ⟨y, s, hy, rfl, rfl, hs, HI, hbel⟩ := hrel
    by_cases h9 : 9 < y
    · obtain ⟨z, hz⟩ : ∃ z, z = y / 10 := ⟨_, rfl⟩
      obtain ⟨c, hc⟩ : ∃ c, c = z % 10 := ⟨_, rfl⟩
      have g0 : (9 : Int) < (y : Int) := by omega
      have g1 : (y : Int) / 10 = (z : Int) := by omega
      have g2 : (y : Int).tdiv 10 = (z : Int) := by rw [Int.tdiv_eq_ediv_of_nonneg (by omega)]; omega
      have g3 : (z : Int) % 10 = (c : Int) := by omega
      have g4 : (z : Int).tmod 10 = (c : Int) := by rw [Int.tmod_eq_emod_of_nonneg (by omega)]; omega
      have hc10 : c < 10 := by omega
      have g5 : (48 + (c : Int)) % 256 = 48 + (c : Int) := by omega
      have hz9 : z < 18446744073709551616 := by omega
      have hzy : z < y := by omega
      obtain ⟨e, he⟩ : ∃ e, e = dgB z := ⟨_, rfl⟩
      have hst := digit_str wr c e (by rw [he, dg_toNat, hc])
      have hcat : txt [e] ++ txt s = txt (e :: s) := txt_catS [e] s
      have s1 : (txt [e]).size = 1 := txt_size _
      have s2 := txt_size s
      have HI2 : Hid (dec x = decH z ++ (e :: s)) := Lib.hid (by
        rw [HI.out]
        unfold decH
        rw [if_neg (by omega), ← hz, dec_head_last z, he, List.append_assoc]
        rfl)
      have hs2 : (e :: s).length ≤ 20 := by
        have h1 := congrArg List.length HI2.out
        have h2 := dec_len20 hx
        rw [List.length_append] at h1
        omega
      have HS2 := Lib.hid hs2
      have HBE := Lib.hid (hbel.alloc hbel.size (.cells #[.int .u8 (48 + (c : Int))] 5))
      clear hz hc hbel HI hs2 he
      go_wp2
      go_roundw
      case rel => exact ⟨z, e :: s, hz9, rfl, rfl, HS2.out, HI2, HBE.out⟩
      case measure => simp [intOf]; omega
    · have g0 : ¬ (9 : Int) < (y : Int) := by omega
      have HV : Hid (dec x = s) := Lib.hid (by rw [HI.out]; unfold decH; rw [if_pos (by omega)]; rfl)
      clear HI
      go_wp2
      go_ret
      exact ⟨by rw [HV.out]; rfl, hbel⟩
/-- A number, or none. -/
def optR : Option Nat → Value
  | some x => .tuple #[.int .u64 (x : Int), .bool true]
  | none => .tuple #[.int .u64 0, .bool false]
def RUintP (s : List UInt8) (w : World) (r : Ending) (w' : World) : Prop := r = .returned (optR (uintX s)) ∧ Below w.heap.size w w'
theorem w20_step {s : List UInt8} {k : Nat} {c : UInt8} (hc : s[k]? = some c) : (s.take (k + 1)).foldl stepW 0 = stepW ((s.take k).foldl stepW 0) c := by
  rw [List.take_add_one, hc, Option.toList_some, List.foldl_append, List.foldl_cons, List.foldl_nil]
theorem wrap_step {X m Y : Nat} (hY : Y = (10 * X + m + 18446744073709551568) % 18446744073709551616) :
    IntKind.u64.wrap (IntKind.u64.wrap (IntKind.u64.wrap (10 * (X : Int)) + (m : Int)) - 48) = (Y : Int) := by
  rw [IntKind.wrap_u64, IntKind.wrap_u64, IntKind.wrap_u64]
  omega
set_option maxRecDepth 100000 in
set_option maxHeartbeats 1000000 in
theorem ruint_any (s : List UInt8) (hs : s.length ≤ 100000) (w : World) : Calls Tryd.prog 9 #[.string (txt s)] w (RUintP s w) := by
  have hsz := txt_size s
  have ts : (txt s).toList = s := txt_toList s
  go_enter Tryd.func9, Tryd.ntmps9
  go_wp2
  go_loop [4, 5] (fun xv i => ∃ (k X : Nat), k ≤ s.length ∧ k ≤ 20 ∧ i = .int .i64 (k : Int) ∧ xv = .int .u64 (X : Int) ∧ X < 18446744073709551616 ∧ Hid (X = (s.take k).foldl stepW 0)) (fun _ i => s.length - (intOf i).toNat)
  case atStart => exact ⟨0, 0, by omega, by omega, rfl, rfl, by omega, Lib.hid rfl⟩
  case round =>
    obtain ⟨k, X, hk, hk2, rfl, rfl, hX, HX⟩ := hrel
    by_cases hlt : k < s.length ∧ k < 20
    · obtain ⟨h1, h2⟩ := hlt
      have d1 : (k : Int) < (s.length : Int) := by omega
      have d2 : (k : Int) < 20 := by omega
      obtain ⟨c, hc⟩ : ∃ c, s[k]? = some c := ⟨_, List.getElem?_eq_getElem h1⟩
      have hin : k < (txt s).size := by rw [hsz]; exact h1
      have hix : (((txt s)[k]'hin).toNat : Int) = (c.toNat : Int) := by rw [txt_get s k h1 hin]; rw [List.getElem?_eq_getElem h1] at hc; injection hc with hc; rw [hc]
      have hc8 := UInt8.toNat_lt c
      obtain ⟨Y, hY⟩ : ∃ Y, Y = stepW X c := ⟨_, rfl⟩
      have HY : Hid (Y = (s.take (k + 1)).foldl stepW 0) := Lib.hid (by rw [w20_step hc, ← HX.out, hY])
      have hY9 : Y < 18446744073709551616 := by rw [hY]; unfold stepW; omega
      obtain ⟨m, hm⟩ : ∃ m, m = c.toNat := ⟨_, rfl⟩
      have hY2 : Y = (10 * X + m + 18446744073709551568) % 18446744073709551616 := by rw [hY, hm]; rfl
      rw [← hm] at hix hc8
      have HW := Lib.hid (wrap_step hY2)
      clear hc hY hm HX hY2
      go_wp2
      go_round
      case rel => exact ⟨k + 1, Y, by omega, by omega, by go_num, by rw [HW.out], hY9, HY⟩
      case measure => simp [intOf]; omega
    · have HXE : Hid (X = w20 s) := Lib.hid (by
        rw [HX.out]
        unfold w20
        by_cases e : k = 20
        · rw [e]
        · rw [List.take_of_length_le (by omega), List.take_of_length_le (by omega)])
      have SH := fun W => Lib.hid (rshow_any X hX W)
      obtain ⟨D, hD⟩ : ∃ D, D = dec X := ⟨_, rfl⟩
      have hT : (txt D).toList = D := txt_toList D
      have HDE := Lib.hid hD
      have SH2 : ∀ W, Hid (Calls Tryd.prog 16 #[.int .u64 (X : Int)] W (fun r w' => r = .returned (.string (txt D)) ∧ Below W.heap.size W w')) := fun W => Lib.hid (by rw [hD]; exact (SH W).out)
      clear hD SH HX
      have hw : (¬ k < s.length) ∨ ((k : Int) < (s.length : Int) ∧ ¬ (k : Int) < 20) := by omega
      by_cases he : D = s
      · have HV : Hid (optR (uintX s) = .tuple #[.int .u64 (X : Int), .bool true]) := Lib.hid (by unfold uintX; rw [← HXE.out, ← HDE.out, if_pos he]; rfl)
        clear HXE HDE hlt
        subst he
        rcases hw with d1 | ⟨d1, d2⟩
        all_goals
          go_wp2_with fail
          refine (SH2 _).out.mono ?_
          rintro r w2 ⟨rfl, hB⟩
          go_wp2
          refine bodyPost_ret (v := .tuple #[.int .u64 (X : Int), .bool true]) (by simp [results, Tryd.results9, go_sem]) rfl ?_
          exact ⟨by rw [HV.out], hB⟩
      · have HV : Hid (optR (uintX s) = .tuple #[.int .u64 0, .bool false]) := Lib.hid (by unfold uintX; rw [← HXE.out, ← HDE.out, if_neg he]; rfl)
        have heb : (D == s) = false := beq_eq_false_iff_ne.2 he
        have heb2 : (D != s) = true := by unfold bne; rw [heb]; rfl
        clear HXE HDE hlt he
        rcases hw with d1 | ⟨d1, d2⟩
        all_goals
          go_wp2_with fail
          refine (SH2 _).out.mono ?_
          rintro r w2 ⟨rfl, hB⟩
          go_wp2
          refine bodyPost_ret (v := .tuple #[.int .u64 0, .bool false]) (by simp [results, Tryd.results9, go_sem]) rfl ?_
          exact ⟨by rw [HV.out], hB⟩

end Go.Proofs.YtpaapjafnjipfaaDoor
