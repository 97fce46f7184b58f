/-
  What package frame's halved, Sum, end and Put answer, where its package-level table holds what the program's text lays. No condition but those of each theorem.
-/
import Derived.Test.YtepcaaejadeklaaDoorFrmSpec
import Derived.Test.YtepcaaejadeklaaDoorOctD
import Derived.Test.YtepcaaejadeklaaDoorVarB
import Derived.Outline
namespace Go.Proofs.YtepcaaejadeklaaDoor
open Go.RowKit
set_option linter.unusedSimpArgs false

/-- The table's cells hold what half a byte leaves of a sum. -/
def Tab (w : World) : Prop := ∀ j, j < 16 → w.cell? ⟨0, j, none⟩ = some (.int .u32 ((crTn 4 j : Nat) : Int))
theorem Tab.lt {w : World} (h : Tab w) : 0 < w.heap.size := World.block_lt_of_cell? w _ (h 0 (by decide))
theorem Tab.below {w w' : World} (h : Tab w) (hb : Below w.heap.size w w') : Tab w' := fun j hj => (hb.cell (p := ⟨0, j, none⟩) h.lt).trans (h j hj)

theorem halved_any (x : Nat) (hx : x < 4294967296) (w : World) (hT : Tab w) :
    Calls Tryd.prog 28 #[.int .u32 (x : Int)] w fun r w' => r = .returned (.int .u32 ((crTn 4 x : Nat) : Int)) ∧ w = w' := by
  obtain ⟨q, hq⟩ : ∃ q, q = x % 16 := ⟨_, rfl⟩
  have hqI : (x : Int) % 16 = (q : Int) := by omega
  have hq16 : q < 16 := by omega
  have hcell := hT q hq16
  obtain ⟨E, hE⟩ : ∃ E, E = crTn 4 q := ⟨_, rfl⟩
  have hE32 : E < 4294967296 := by rw [hE]; exact crTn_lt 4 (by omega)
  obtain ⟨H, hH⟩ : ∃ H, H = x / 16 := ⟨_, rfl⟩
  have hHI : (x : Int) / 16 = (H : Int) := by omega
  have hHI2 : (x : Int) / 2 ^ 4 = (H : Int) := by omega
  have HX : Hid (bits .xor .u32 (H : Int) (E : Int) = ((crTn 4 x : Nat) : Int)) := Lib.hid (by
    rw [u32_xor_nat H E (by omega) hE32, crTn_low 4 x, Nat.shiftRight_eq_div_pow, hE, hH, hq])
  rw [← hE] at hcell
  have i1 : (0 : Int) ≤ (q : Int) := by omega
  have i2 : (q : Int) < 16 := by omega
  clear hE hH hq hT
  go_enter Tryd.func28, Tryd.ntmps28
  go_wp2
  go_ret
  exact ⟨by rw [← HX.out]; rfl, rfl⟩

theorem crL_snoc' (l : List UInt8) (k : Nat) (b : UInt8) (h : l[k]? = some b) (x : Nat) : crL x (l.take (k + 1)) = crTn 4 (crTn 4 (crL x (l.take k) ^^^ b.toNat)) := by
  have hk : k < l.length := (List.getElem?_eq_some_iff.1 h).1
  rw [List.getElem?_eq_getElem hk] at h
  injection h with h
  rw [List.take_succ_eq_append_getElem hk, h, crL_snoc]
  unfold crB
  exact crTn_add 4 4 _

theorem inv_xor {x : Nat} (h : x < 4294967296) : 4294967295 - x = 4294967295 ^^^ x := by
  have h2 : (4294967296 : Nat) = 2 ^ 32 := by decide
  rw [h2] at h
  apply Nat.eq_of_testBit_eq
  intro i
  rw [show 4294967295 - x = 2 ^ 32 - (x + 1) by omega, Nat.testBit_two_pow_sub_succ h, Nat.testBit_xor, show (4294967295 : Nat) = 2 ^ 32 - 1 by decide, Nat.testBit_two_pow_sub_one]
  by_cases hi : i < 32
  · simp [hi]
  · have : x.testBit i = false := Nat.testBit_lt_two_pow (Nat.lt_of_lt_of_le h (Nat.pow_le_pow_right (by decide) (by omega)))
    simp [hi, this]

set_option maxRecDepth 100000 in
theorem sum_any (l : List UInt8) (w : World) (d : Nat) (v : Value) (hr : Rd w d v l) (hT : Tab w) : Calls Tryd.prog 14 #[v] w (fun r w' => r = .returned (.int .u32 (crc l : Int)) ∧ w = w') := by
  obtain ⟨A, c, rfl, hlc, hc47, hA⟩ := hr
  have HT := Lib.hid hT
  have HA := Lib.hid hA
  clear hT hA
  go_enter Tryd.func14, Tryd.ntmps14
  go_wp2
  go_loop [3, 8] (fun s i => ∃ (k X : Nat), k ≤ l.length ∧ i = .int .i64 (k : Int) ∧ s = .int .u32 (X : Int) ∧ X < 4294967296 ∧ Hid (X = crL 4294967295 (l.take k))) (fun _ i => l.length - (intOf i).toNat)
  case atStart => exact ⟨0, 4294967295, Nat.zero_le _, rfl, rfl, by decide, Lib.hid rfl⟩
  case round =>
    obtain ⟨k, X, hk, rfl, rfl, hX, HX⟩ := hrel
    by_cases hlt : k < l.length
    · obtain ⟨b, hb⟩ : ∃ b, l[k]? = some b := ⟨_, List.getElem?_eq_getElem hlt⟩
      obtain ⟨off, rfl, hc⟩ := HA.out (by omega)
      have hcell : w.cell? ⟨d, off + k, none⟩ = some (.int .u8 (b.toNat : Int)) := hc k _ hb
      have hb8 := UInt8.toNat_lt b
      obtain ⟨Y, hY⟩ : ∃ Y, Y = X ^^^ b.toNat := ⟨_, rfl⟩
      have hxr : bits .xor .u32 (X : Int) (b.toNat : Int) = (Y : Int) := by rw [hY]; exact u32_xor_nat X b.toNat hX (by omega)
      have hY32 : Y < 4294967296 := by
        rw [hY]
        have := Nat.xor_lt_two_pow (x := X) (y := b.toNat) (n := 32) (by omega) (by omega)
        omega
      have HN := Lib.hid (crL_snoc' l k b hb 4294967295)
      rw [← HX.out, ← hY] at HN
      obtain ⟨Z, hZ⟩ : ∃ Z, Z = crTn 4 Y := ⟨_, rfl⟩
      have hZ32 : Z < 4294967296 := by rw [hZ]; exact crTn_lt 4 hY32
      obtain ⟨U, hU⟩ : ∃ U, U = crTn 4 Z := ⟨_, rfl⟩
      have hU32 : U < 4294967296 := by rw [hU]; exact crTn_lt 4 hZ32
      have C1 := Lib.hid (halved_any Y hY32 w HT.out)
      have C2 := Lib.hid (halved_any Z hZ32 w HT.out)
      rw [← hZ] at C1 HN
      rw [← hU] at C2 HN
      clear hb hc hY hZ hU
      go_wp2_with fail
      refine C1.out.mono ?_
      rintro r w' ⟨rfl, rfl⟩
      go_wp2_with fail
      refine C2.out.mono ?_
      rintro r w' ⟨rfl, rfl⟩
      go_wp2
      go_round
      case rel => exact ⟨k + 1, U, by omega, by go_num, rfl, hU32, Lib.hid HN.out.symm⟩
      case measure => simp [intOf]; omega
    · obtain rfl : k = l.length := by omega
      have hx := HX.out
      rw [List.take_length] at hx
      have HE : Hid (bits .xor .u32 IntKind.u32.max (X : Int) = ((crc l : Nat) : Int)) := Lib.hid (by
        have e : IntKind.u32.max = ((4294967295 : Nat) : Int) := by decide
        rw [e, u32_xor_nat 4294967295 X (by decide) hX, ← inv_xor hX, hx]
        rfl)
      clear hx
      go_wp2
      go_ret
      exact ⟨by rw [← HE.out]; rfl, rfl⟩

/-! ### end, Put -/
def EndP (l : List UInt8) (w : World) (r : Ending) (w' : World) : Prop := ∃ v, r = .returned v ∧ Rd w' w.heap.size v (bigB (crc l) 4) ∧ Below w.heap.size w w'
theorem end4_any (l : List UInt8) (w : World) (d : Nat) (v : Value) (hr : Rd w d v l) (hT : Tab w) : Calls Tryd.prog 21 #[v] w (EndP l w) := by
  have HC := Lib.hid (sum_any l w d v hr hT)
  have hk := crc_lt l
  obtain ⟨K, hK⟩ : ∃ K, K = crc l := ⟨_, rfl⟩
  rw [← hK] at HC hk
  unfold EndP
  rw [← hK]
  have HB := Lib.hid (big_any K 4 w (by omega))
  obtain ⟨A, c, rfl⟩ := hr.shape4
  clear hr hT hK
  go_enter Tryd.func21, Tryd.ntmps21
  go_wp2_with fail
  refine HC.out.mono ?_
  rintro r w' ⟨rfl, rfl⟩
  go_wp2_with fail
  refine HB.out.mono ?_
  rintro r w' ⟨v, rfl, hrd, hb, -⟩
  go_wp2
  go_ret
  exact ⟨_, rfl, hrd, hb⟩

theorem putF_any (W0 : World) (hT0 : Tab W0) : PutFC W0 := by
  intro l w d v hB hr
  have hT := hT0.below hB
  obtain ⟨A, c, rfl⟩ := hr.shape4
  clear hB hT0 W0
  by_cases h : 8192 < l.length
  · obtain ⟨e1, e2⟩ := putF_big h
    have HP : Hid (PutFP l w (.returned (.tuple #[.slice none 0 0, .int .i64 14])) w) := Lib.hid ⟨_, by rw [e2], by rw [e1]; exact Own.nil _ _, Below.refl _ _⟩
    have hd : decide ((8192 : Int) < (l.length : Int)) = true := decide_eq_true (by omega)
    clear e1 e2 hr hT h
    go_enter Tryd.func10, Tryd.ntmps10
    go_wp2
    go_ret2
    exact HP.out
  · obtain ⟨e1, e2⟩ := putF_small (l := l) (by omega)
    have hd : decide ((8192 : Int) < (l.length : Int)) = false := decide_eq_false (by omega)
    have hn : l.length ≤ 8192 := by omega
    have h2 := encV_two hn
    obtain ⟨T, hTT⟩ : ∃ T, T = encV 9 l.length ++ l := ⟨_, rfl⟩
    have lT : T.length ≤ 8194 := by rw [hTT, List.length_append]; omega
    have HF : Hid (frm l = T ++ bigB (crc T) 4) := Lib.hid (by unfold frm; rw [hTT])
    obtain ⟨G, hG⟩ : ∃ G, G = bigB (crc T) 4 := ⟨_, rfl⟩
    have lG : G.length = 4 := by rw [hG]; exact bigB_length _ _
    have HT := Lib.hid hT
    have HTT := Lib.hid hTT
    have HG := Lib.hid hG
    have HP := Lib.hid (put_own l.length (by omega) w)
    have HE1 := Lib.hid e1
    have HE2 := Lib.hid e2
    obtain ⟨N, hN⟩ : ∃ N, N = (encV 9 l.length) := ⟨_, rfl⟩
    unfold PutOwn at HP
    rw [← hN] at HP HTT h2
    clear e1 e2 h hT hTT hG hN
    go_enter Tryd.func10, Tryd.ntmps10
    go_wp2_with fail
    refine HP.out.mono ?_
    rintro r w1 ⟨v1, rfl, ho1, hb1⟩
    have hr1 := hr.below' hb1
    have hS1 := hb1.size
    clear HP
    go_wp2_with (at_builtin; refine wpList_append_rd rfl (.tmp 11) (.tmp 12) rfl rfl w.heap.size _ N rfl ho1 _ _ l rfl hr1 ?h1 ?h2 ?_)
    case h1 => omega
    case h2 => exact hS1
    intro v2 w2 hap
    have hb2 := hap.below ho1 hS1
    have ho2 : Own w2 w.heap.size v2 T := by rw [HTT.out]; exact hap.1
    have hB2 := hb1.trans hb2
    have hT2 := HT.out.below hB2
    obtain ⟨d2, -, hrd2⟩ := ho2.rd' (by omega)
    have HE := Lib.hid (end4_any T w2 d2 v2 hrd2 hT2)
    obtain ⟨A2, c2, rfl⟩ := hrd2.shape4
    clear hap hb2 ho1 hr hr1 hb1 hS1 hrd2 hT2
    go_wp2_with fail
    refine HE.out.mono ?_
    rintro r w3 ⟨v3, rfl, hr3, hb3⟩
    rw [← HG.out] at hr3
    have ho3 := ho2.below hb3
    have hB3 := hB2.trans (hb3.mono hB2.size)
    have hS3 := hB3.size
    clear HE ho2 hB2 hb3
    go_wp2_with (at_builtin; refine wpList_append_rd rfl (.tmp 14) (.tmp 16) rfl rfl w.heap.size _ T rfl ho3 _ _ G rfl hr3 ?h3 ?h4 ?_)
    case h3 => omega
    case h4 => exact hS3
    intro v4 w4 hap
    have hb4 := hap.below ho3 hS3
    have ho4 : Own w4 w.heap.size v4 (putF l) := by rw [HE1.out, HF.out, ← HG.out]; exact hap.1
    have HR : Hid (PutFP l w (.returned (.tuple #[v4, .int .i64 0])) w4) := Lib.hid ⟨_, by rw [HE2.out], ho4, hB3.trans hb4⟩
    clear hap hb4 ho3 hr3 hB3 hS3 ho4
    go_wp2
    go_ret2
    exact HR.out

end Go.Proofs.YtepcaaejadeklaaDoor
