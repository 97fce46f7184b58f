/-
  What the document's one and Big (package tollbarref01) and Put (package tollbarref04) answer. No condition but those of each theorem.
-/
import Derived.Test.YtepcaaejadeklaaDoorFrmRef
namespace Go.Proofs.YtepcaaejadeklaaDoor
open Go.RowKit
set_option linter.unusedSimpArgs false

theorem bigB_cons (x k : Nat) : bigB x (k + 1) = UInt8.ofNat (x / 256 ^ k) :: bigB x k := by
  unfold bigB
  rw [List.range_succ_eq_map, List.map_cons, List.map_map]
  congr 1
  refine List.map_congr_left fun j hj => ?_
  have hj := List.mem_range.1 hj
  show UInt8.ofNat (x / 256 ^ (k + 1 - 1 - (j + 1))) = _
  congr 3
  omega

def ROnePost (x : Nat) (w : World) (r : Ending) (w' : World) : Prop := r = .returned (.string (txt [UInt8.ofNat x])) ∧ Below w.heap.size w w'
theorem rone_any (x : Nat) (w : World) : Calls Tryd.prog 32 #[.int .u64 (x : Int)] w (ROnePost x w) := by
  obtain ⟨q, hq⟩ : ∃ q, q = x % 256 := ⟨_, rfl⟩
  have hqI : (x : Int) % 256 = (q : Int) := by omega
  have hq8 : q < 256 := by omega
  have hst : (convert 22 9 (.slice (some ⟨w.heap.size, 0, none⟩) 1 1)).run Tryd.prog (w.alloc (.cells #[.int .u8 (q : Int)] 5)) = .ok (.string (txt [UInt8.ofNat x])) (w.alloc (.cells #[.int .u8 (q : Int)] 5)) := by
    have hb : byteV (UInt8.ofNat x) = .int .u8 (q : Int) := by unfold byteV; rw [ofNat_toNat, hq]
    rw [← hb]
    exact str_of (lit1 w _)
  clear hq
  go_enter Tryd.func32, Tryd.ntmps32
  go_wp2
  go_ret
  exact ⟨rfl, (Below.refl _ _).alloc (Nat.le_refl _) _⟩

def RBigPost (x n : Nat) (w : World) (r : Ending) (w' : World) : Prop := r = .returned (.string (txt (bigB x n))) ∧ Below w.heap.size w w'
set_option maxRecDepth 100000 in
theorem rbig_any (x n : Nat) (nI : Int) (w : World) (hx : x < 18446744073709551616) (hn : n ≤ 8) (e : nI = (n : Int)) : Calls Tryd.prog 23 #[.int .u64 (x : Int), .int .i64 nI] w (RBigPost x n w) := by
  subst e
  go_enter Tryd.func23, Tryd.ntmps23
  go_wp2
  go_loopw [0, 5, 6] (fun y s i wr => ∃ (k Y : Nat) (T : List UInt8), k ≤ n ∧ i = .int .i64 (k : Int) ∧ y = .int .u64 (Y : Int) ∧ s = .string (txt T) ∧ Y < 18446744073709551616 ∧ Hid (Y = x / 256 ^ k) ∧ Hid (T = bigB x k) ∧ T.length ≤ 8 ∧ Below w.heap.size w wr) (fun _ _ i _ => n - (intOf i).toNat)
  case atStart => exact ⟨0, x, [], Nat.zero_le _, rfl, rfl, rfl, hx, Lib.hid (by simp), Lib.hid rfl, by simp, Below.refl _ _⟩
  case round =>
    obtain ⟨k, Y, T, hk, rfl, rfl, rfl, hY, HY, HT, hT8, hB⟩ := hrel
    by_cases hlt : k < n
    · have i1 : decide ((k : Int) < (n : Int)) = true := decide_eq_true (by omega)
      have i2 : decide ((n : Int) ≤ 8) = true := decide_eq_true (by omega)
      obtain ⟨b, hb⟩ : ∃ b, b = UInt8.ofNat Y := ⟨_, rfl⟩
      obtain ⟨T', hT'⟩ : ∃ T', T' = b :: T := ⟨_, rfl⟩
      have hcat : txt [b] ++ txt T = txt T' := by rw [hT']; exact txt_append [b] T
      have s1 := txt_size [b]
      have s2 := txt_size T
      have hl1 : ([b] : List UInt8).length = 1 := rfl
      rw [hl1] at s1
      have hc : ¬ 9223372036854775807 < 1 + T.length := by omega
      have HN : Hid (T' = bigB x (k + 1)) := Lib.hid (by rw [bigB_cons, hT', hb, HT.out, HY.out])
      have hT8' : T'.length ≤ 8 := by
        have h := HN.out
        rw [h, bigB_length]; omega
      obtain ⟨Y', hY'⟩ : ∃ Y', Y' = Y / 256 := ⟨_, rfl⟩
      have hYI : (Y : Int) / 256 = (Y' : Int) := by omega
      have hY64 : Y' < 18446744073709551616 := by omega
      have HYN : Hid (Y' = x / 256 ^ (k + 1)) := Lib.hid (by rw [hY', HY.out, Nat.div_div_eq_div_mul, Nat.pow_succ])
      have HONE : Hid (Calls Tryd.prog 32 #[.int .u64 (Y : Int)] wr (fun r w' => r = .returned (.string (txt [b])) ∧ Below wr.heap.size wr w')) := Lib.hid (by rw [hb]; exact rone_any Y wr)
      clear hb hT' hY' hl1
      go_wp2_with fail
      refine HONE.out.mono ?_
      rintro r w1 ⟨rfl, hb1⟩
      have hB1 := hB.trans (hb1.mono hB.size)
      clear hB hb1
      go_wp2
      go_roundw
      case rel => exact ⟨k + 1, Y', T', by omega, by go_num, rfl, rfl, hY64, HYN, HN, hT8', hB1⟩
      case measure => simp [intOf]; omega
    · obtain rfl : k = n := by omega
      have hTe := HT.out
      subst hTe
      clear hlt
      go_wp2
      go_ret
      exact ⟨rfl, hB⟩

/-- A record's bytes. -/
def frm (s : List UInt8) : List UInt8 := (encV 9 s.length ++ s) ++ bigB (crc (encV 9 s.length ++ s)) 4
theorem frm_length (s : List UInt8) : (frm s).length = (encV 9 s.length).length + s.length + 4 := by
  unfold frm; rw [List.length_append, List.length_append, bigB_length]
def putFOut (s : List UInt8) : Ending := if 8192 < s.length then .returned (.tuple #[.string ⟨#[]⟩, .int .i64 14]) else .returned (.tuple #[.string (txt (frm s)), .int .i64 0])
def RPutF (s : List UInt8) (w : World) (r : Ending) (w' : World) : Prop := r = putFOut s ∧ Below w.heap.size w w'
set_option maxRecDepth 100000 in
theorem rputF_any (s : List UInt8) (w : World) (hs : s.length ≤ 90000) : Calls Tryd.prog 11 #[.string (txt s)] w (RPutF s w) := by
  have hsz := txt_size s
  by_cases h : 8192 < s.length
  · have hd : decide ((8192 : Int) < (s.length : Int)) = true := decide_eq_true (by omega)
    have HP : Hid (RPutF s w (.returned (.tuple #[.string ⟨#[]⟩, .int .i64 14])) w) := Lib.hid ⟨by unfold putFOut; rw [if_pos h], Below.refl _ _⟩
    clear h
    go_enter Tryd.func11, Tryd.ntmps11
    go_wp2
    go_ret2
    exact HP.out
  · have hd : decide ((8192 : Int) < (s.length : Int)) = false := decide_eq_false (by omega)
    obtain ⟨P, hP⟩ : ∃ P, P = encV 9 s.length := ⟨_, rfl⟩
    obtain ⟨T, hT⟩ : ∃ T, T = P ++ s := ⟨_, rfl⟩
    obtain ⟨G, hG⟩ : ∃ G, G = bigB (crc T) 4 := ⟨_, rfl⟩
    obtain ⟨F, hF⟩ : ∃ F, F = T ++ G := ⟨_, rfl⟩
    have hPl : P.length ≤ 10 := by rw [hP]; exact (encV_length 9 _).2
    have hGl : G.length = 4 := by rw [hG]; exact bigB_length _ _
    have hTl : T.length = P.length + s.length := by rw [hT]; exact List.length_append
    have x1 : txt P ++ txt s = txt T := by rw [hT]; exact txt_append P s
    have x2 : txt T ++ txt G = txt F := by rw [hF]; exact txt_append T G
    have s1 := txt_size P
    have s2 := txt_size T
    have s3 := txt_size G
    have c1 : ¬ 9223372036854775807 < P.length + s.length := by omega
    have c2 : ¬ 9223372036854775807 < T.length + G.length := by omega
    have HO : Hid (putFOut s = .returned (.tuple #[.string (txt F), .int .i64 0])) := Lib.hid (by
      unfold putFOut frm
      rw [if_neg h, ← hP, ← hT, ← hG, ← hF])
    obtain ⟨K, hK⟩ : ∃ K, K = crc T := ⟨_, rfl⟩
    have hK32 : K < 4294967296 := by rw [hK]; exact crc_lt T
    have HPUT : ∀ W, Hid (Calls Tryd.prog 22 #[.int .u64 (s.length : Int)] W (fun r w' => r = .returned (.string (txt P)) ∧ Below W.heap.size W w')) := fun W => Lib.hid (by
      rw [hP]
      exact rput_any 9 (by omega) s.length W (by have : (18446744073709551616 : Nat) < 128 ^ (9 + 1) := by decide
                                                 omega) (by omega))
    have HSUM : ∀ W, Hid (Calls Tryd.prog 15 #[.string (txt T)] W (fun r w' => r = .returned (.int .u32 (K : Int)) ∧ W = w')) := fun W => Lib.hid (by
      rw [hK]
      exact rsum_any T W (by omega))
    have HBIG : ∀ W, Hid (Calls Tryd.prog 23 #[.int .u64 (K : Int), .int .i64 4] W (fun r w' => r = .returned (.string (txt G)) ∧ Below W.heap.size W w')) := fun W => Lib.hid (by
      rw [hG, ← hK]
      exact rbig_any K 4 4 W (by omega) (by omega) rfl)
    have HP := Lib.hid HPUT
    have HS := Lib.hid HSUM
    have HG := Lib.hid HBIG
    clear h hP hT hG hF hK HPUT HSUM HBIG hTl hGl
    go_enter Tryd.func11, Tryd.ntmps11
    go_wp2_with fail
    refine (HP.out _).out.mono ?_
    rintro r w1 ⟨rfl, hb1⟩
    go_wp2_with fail
    refine (HS.out _).out.mono ?_
    rintro r w2 ⟨rfl, rfl⟩
    go_wp2_with fail
    refine (HG.out _).out.mono ?_
    rintro r w3 ⟨rfl, hb3⟩
    have hB := hb1.trans (hb3.mono hb1.size)
    clear hb1 hb3
    go_wp2
    go_ret2
    exact ⟨by rw [HO.out]; rfl, hB⟩

end Go.Proofs.YtepcaaejadeklaaDoor
