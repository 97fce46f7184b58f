/- VlrB -/
import Derived.Test.YtodlhgflfcadmaaGreatUM4
set_option linter.unusedSimpArgs false
set_option linter.unusedVariables false
set_option maxRecDepth 100000
set_option maxHeartbeats 8000000
namespace Go.Proofs.YtodlhgflfcadmaaGreat
open Go.RowKit
theorem txt_append8 (a b : List UInt8) : txt a ++ txt b = txt (a ++ b) := by
 apply txt_ext
 rw [ByteArray.data_append, Array.toList_append, txt_data, txt_data, txt_data]
theorem lit18 (w : World) (b : UInt8) : Rd (w.alloc (.cells #[byteV b] 5)) w.heap.size (.slice (some ⟨w.heap.size, 0, none⟩) 1 1) [b] :=
 Rd.of_blk (l := [b]) (Blk.new w 5 _) (by simp)
theorem bigB_cons8 (x k : Nat) : bigB x (k + 1) = UInt8.ofNat (x / 256 ^ k) :: bigB x k := by
 unfold bigB
 rw [List.range_succ_eq_map, List.map_cons, List.map_map]
 congr 1
 refine List.map_congr_left fun j hj => ?_
 have hj := List.mem_range.1 hj
 show UInt8.ofNat (x / 256 ^ (k + 1 - 1 - (j + 1))) = _
 congr 3
 omega
def ROneP8 (x : Nat) (w : World) (r : Ending) (w' : World) : Prop := r = .returned (.string (txt [UInt8.ofNat x])) ∧ Below w.heap.size w w'
theorem rone8_any (x : Nat) (w : World) : Calls Tryz.prog 102 #[.int .u64 (x : Int)] w (ROneP8 x w) := by
 obtain ⟨q, hq⟩ : ∃ q, q = x % 256 := ⟨_, rfl⟩
 have hqI : (x : Int) % 256 = (q : Int) := by omega
 have hq8 : q < 256 := by omega
 have hst : (convert 30 9 (.slice (some ⟨w.heap.size, 0, none⟩) 1 1)).run Tryz.prog (w.alloc (.cells #[.int .u8 (q : Int)] 5)) = .ok (.string (txt [UInt8.ofNat x])) (w.alloc (.cells #[.int .u8 (q : Int)] 5)) := by
  have hb : byteV (UInt8.ofNat x) = .int .u8 (q : Int) := by unfold byteV; rw [ofNat_toNat, hq]
  rw [← hb]
  exact str_of (lit18 w _)
 clear hq
 go_enter Tryz.func102, Tryz.ntmps102
 go_wp2
 go_ret
 exact ⟨rfl, bAl⟩
def RBigP8 (x n : Nat) (w : World) (r : Ending) (w' : World) : Prop := r = .returned (.string (txt (bigB x n))) ∧ Below w.heap.size w w'
theorem rbig8_any (x n : Nat) (nI : Int) (w : World) (hx : x < 18446744073709551616) (hn : n ≤ 8) (e : nI = (n : Int)) : Calls Tryz.prog 79 #[.int .u64 (x : Int), .int .i64 nI] w (RBigP8 x n w) := by
 subst e
 go_enter Tryz.func79, Tryz.ntmps79
 go_wp2
 go_loopw [0, 5, 6] (fun y s i wr => ∃ (k Y : Nat) (T : List UInt8), k ≤ n ∧ i = .int .i64 (k : Int) ∧ y = .int .u64 (Y : Int) ∧ s = .string (txt T) ∧ Y < 18446744073709551616 ∧ Hid (Y = x / 256 ^ k) ∧ Hid (T = bigB x k) ∧ T.length ≤ 8 ∧ Below w.heap.size w wr) (fun _ _ i _ => n - (intOf i).toNat)
 case atStart => exact ⟨0, x, [], Nat.zero_le _, rfl, rfl, rfl, hx, hHd (by simp), hHd rfl, by simp, Below.refl _ _⟩
 case round =>
  obtain ⟨k, Y, T, hk, rfl, rfl, rfl, hY, HY, HT, hT8, hB⟩ := hrel
  by_cases hlt : k < n
  ·have i1 : decide ((k : Int) < (n : Int)) = true := decide_eq_true (by omega)
   have i2 : decide ((n : Int) ≤ 8) = true := decide_eq_true (by omega)
   obtain ⟨b, hb⟩ : ∃ b, b = UInt8.ofNat Y := ⟨_, rfl⟩
   obtain ⟨T', hT'⟩ : ∃ T', T' = b :: T := ⟨_, rfl⟩
   have hcat : txt [b] ++ txt T = txt T' := by rw [hT']; exact txt_append8 [b] T
   have s1 := txt_size [b]
   have s2 := txt_size T
   have hl1 : ([b] : List UInt8).length = 1 := rfl
   rw [hl1] at s1
   have hc : ¬ 9223372036854775807 < 1 + T.length := by omega
   have HN : Hid (T' = bigB x (k + 1)) := hHd (by rw [bigB_cons8, hT', hb, HT.out, HY.out])
   have hT8' : T'.length ≤ 8 := by
    have h := HN.out
    rw [h, bigB_length]; omega
   obtain ⟨Y', hY'⟩ : ∃ Y', Y' = Y / 256 := ⟨_, rfl⟩
   have hYI : (Y : Int) / 256 = (Y' : Int) := by omega
   have hY64 : Y' < 18446744073709551616 := by omega
   have HYN : Hid (Y' = x / 256 ^ (k + 1)) := hHd (by rw [hY', HY.out, Nat.div_div_eq_div_mul, Nat.pow_succ])
   have HONE : Hid (Calls Tryz.prog 102 #[.int .u64 (Y : Int)] wr (fun r w' => r = .returned (.string (txt [b])) ∧ Below wr.heap.size wr w')) := hHd (by rw [hb]; exact rone8_any Y wr)
   clear hb hT' hY' hl1
   go_wp2_with fail
   refine HONE.out.mono ?_
   rintro r w1 ⟨rfl, hb1⟩
   have hB1 := hB.trans (hb1.mono hB.size)
   clear hB hb1
   go_wp2
   go_roundw
   case rel => exact ⟨k + 1, Y', T', by omega, by go_num, rfl, rfl, hY64, HYN, HN, hT8', hB1⟩
   case measure => simp [intOf]; omega
  ·obtain rfl : k = n := by omega
   have hTe := HT.out
   subst hTe
   clear hlt
   go_wp2
   go_ret
   exact ⟨rfl, hB⟩
theorem least_is {x k : Nat} (hx : x < 18446744073709551616) (h0 : x / 256 ^ k = 0) (h1 : ∀ j, j < k → x / 256 ^ j ≠ 0) : k = lenB 8 x := by
 obtain ⟨g1, g2, g3⟩ := lenB_spec 8 x (by omega)
 rcases Nat.lt_trichotomy k (lenB 8 x) with h | h | h
 ·have h2 := g2 (by omega)
  have h3 : x < 256 ^ k := by
   rcases Nat.div_eq_zero_iff.1 h0 with e | e
   ·have : 0 < 256 ^ k := Nat.pow_pos (by omega)
    omega
   ·exact e
  have h4 : 256 ^ k ≤ 256 ^ (lenB 8 x - 1) := Nat.pow_le_pow_right (by omega) (by omega)
  omega
 ·exact h
 ·exact absurd (Nat.div_eq_of_lt g1) (h1 _ h)
def RLeastP8 (x : Nat) (w : World) (r : Ending) (w' : World) : Prop := r = .returned (.string (txt (leastB x))) ∧ Below w.heap.size w w'
theorem rleast8_any (x : Nat) (w : World) (hx : x < 18446744073709551616) : Calls Tryz.prog 78 #[.int .u64 (x : Int)] w (RLeastP8 x w) := by
 go_enter Tryz.func78, Tryz.ntmps78
 go_wp2
 go_loopw [0, 3] (fun y s wr => ∃ (k Y : Nat) (T : List UInt8), y = .int .u64 (Y : Int) ∧ s = .string (txt T) ∧ Y < 18446744073709551616 ∧ k ≤ 8 ∧ Hid (Y = x / 256 ^ k) ∧ Hid (T = bigB x k) ∧ T.length ≤ 8 ∧ Hid (∀ j, j < k → x / 256 ^ j ≠ 0) ∧ Below w.heap.size w wr) (fun y _ _ => (intOf y).toNat)
 case atStart => exact ⟨0, x, [], rfl, rfl, hx, by omega, hHd (by simp), hHd rfl, by simp, hHd (fun j h => by omega), Below.refl _ _⟩
 case round =>
  obtain ⟨k, Y, T, rfl, rfl, hY, hk, HY, HT, hT8, HN, hB⟩ := hrel
  by_cases hlt : 0 < Y
  ·have hk7 : k < 8 := by
    rcases Nat.lt_or_ge k 8 with h | h
    ·exact h
    ·have e : k = 8 := by omega
     have h2 := HY.out
     rw [e, Nat.div_eq_of_lt (by omega)] at h2
     omega
   have i1 : (0 : Int) < (Y : Int) := by omega
   obtain ⟨b, hb⟩ : ∃ b, b = UInt8.ofNat Y := ⟨_, rfl⟩
   obtain ⟨T', hT'⟩ : ∃ T', T' = b :: T := ⟨_, rfl⟩
   have hcat : txt [b] ++ txt T = txt T' := by rw [hT']; exact txt_append8 [b] T
   have s1 := txt_size [b]
   have s2 := txt_size T
   have hl1 : ([b] : List UInt8).length = 1 := rfl
   rw [hl1] at s1
   have hc : ¬ 9223372036854775807 < 1 + T.length := by omega
   have HN2 : Hid (T' = bigB x (k + 1)) := hHd (by rw [bigB_cons8, hT', hb, HT.out, HY.out])
   have hT8' : T'.length ≤ 8 := by
    have h := HN2.out
    rw [h, bigB_length]; omega
   obtain ⟨Y', hY'⟩ : ∃ Y', Y' = Y / 256 := ⟨_, rfl⟩
   have hYI : (Y : Int) / 256 = (Y' : Int) := by omega
   have hY64 : Y' < 18446744073709551616 := by omega
   have HLT : Hid (Y' < Y) := hHd (by rw [hY']; exact Nat.div_lt_self hlt (by omega))
   have HYN : Hid (Y' = x / 256 ^ (k + 1)) := hHd (by rw [hY', HY.out, Nat.div_div_eq_div_mul, Nat.pow_succ])
   have HNN : Hid (∀ j, j < k + 1 → x / 256 ^ j ≠ 0) := hHd (fun j hj => by
    by_cases e : j = k
    ·subst e; rw [← HY.out]; omega
    ·exact HN.out j (by omega))
   have HONE : Hid (Calls Tryz.prog 102 #[.int .u64 (Y : Int)] wr (fun r w' => r = .returned (.string (txt [b])) ∧ Below wr.heap.size wr w')) := hHd (by rw [hb]; exact rone8_any Y wr)
   clear hb hT' hY' hl1
   go_wp2_with fail
   refine HONE.out.mono ?_
   rintro r w1 ⟨rfl, hb1⟩
   have hB1 := hB.trans (hb1.mono hB.size)
   clear hB hb1
   go_wp2
   go_roundw
   case rel => exact ⟨k + 1, Y', T', by go_num, rfl, hY64, by omega, HYN, HN2, hT8', HNN, hB1⟩
   case measure => have := HLT.out; simp [intOf]; omega
  ·have i1 : ¬ (0 : Int) < (Y : Int) := by omega
   have HE : Hid (T = leastB x) := hHd (by rw [HT.out, least_is hx (by have := HY.out; omega) HN.out]; rfl)
   go_wp2
   go_ret
   exact ⟨by rw [HE.out]; rfl, hB⟩
theorem Blk.new8 {w : World} {g : Nat} (h : w.heap.size = g) (t : TypeId) (cs : Array Value) : Blk (w.alloc (.cells cs t)) g t cs := by subst h; exact Blk.new w t cs
theorem rdata_num1 (nm : List UInt8) (lo hi : Nat) (ns : List (List UInt8)) (mu : Bool) (mo : Nat) (vn : Nat) (vt : List UInt8) (B : Option Addr) (L m d : Nat) (A : Option Addr) (K c : Nat) (w : World) (hv : Vals w d (.slice B ns.length m) (txts ns)) (hL : ns.length = L) (hn : L ≤ 1000000) (hvn : vn < 18446744073709551616) (hvt : vt.length ≤ 1048576)  (hR : rightX ⟨nm, 1, 1, lo, hi, ns, mu, mo⟩ ⟨1, vn, vt⟩ = true) :
  Calls Tryz.prog 49 #[.agg (cS (txt nm) 1 1 lo hi (.slice B L m) mu mo (.slice A K c)), .agg #[.int .i64 (1 : Int), .int .u64 (vn : Int), .string (txt vt)]] w (AnsP (.string (txt (leastB vn))) w) := by
 have HR : Hid (∀ W, Below w.heap.size w W → Calls Tryz.prog 77 #[.agg (cS (txt nm) 1 1 lo hi (.slice B L m) mu mo (.slice A K c)), .agg #[.int .i64 (1 : Int), .int .u64 (vn : Int), .string (txt vt)]] W (fun r w' => r = .returned (.bool true) ∧ Below W.heap.size W w')) := hHd (fun W hW => by
  have h := vrright_any ⟨nm, 1, 1, lo, hi, ns, mu, mo⟩ ⟨1, vn, vt⟩ B m d A K c W (hv.heap (fun h0 => hW.block d (by obtain ⟨A', c', _, _, h2⟩ := hv; exact (h2 h0).1))) (by simp only; omega) ⟨by simp only; omega, by simp only; omega, hvn, hvt⟩
  rw [hR] at h
  simp only [hL] at h
  exact h)
 have HB : Hid (Below w.heap.size w ((w.alloc (.cells (cS (txt nm) 1 1 lo hi (.slice B L m) mu mo (.slice A K c)) 67)).alloc (.cells #[.int .i64 (1 : Int), .int .u64 (vn : Int), .string (txt vt)] 24))) := hHd (bAl.alloc (by simp) _)
 have X2 : Hid (Blk ((w.alloc (.cells (cS (txt nm) 1 1 lo hi (.slice B L m) mu mo (.slice A K c)) 67)).alloc (.cells #[.int .i64 (1 : Int), .int .u64 (vn : Int), .string (txt vt)] 24)) w.heap.size 67 (cS (txt nm) 1 1 lo hi (.slice B L m) mu mo (.slice A K c))) := hHd ((Blk.new w _ _).alloc _)
 have Y2 : Hid (Blk ((w.alloc (.cells (cS (txt nm) 1 1 lo hi (.slice B L m) mu mo (.slice A K c)) 67)).alloc (.cells #[.int .i64 (1 : Int), .int .u64 (vn : Int), .string (txt vt)] 24)) (w.heap.size + 1) 24 #[.int .i64 (1 : Int), .int .u64 (vn : Int), .string (txt vt)]) := hHd (Blk.new8 (by simp) _ _)
 clear hR hv hn hL
 go_enter Tryz.func49, Tryz.ntmps49
 go_wp2_with fail
 refine (HR.out _ HB.out).mono ?_
 rintro r w3 ⟨rfl, hb⟩
 have H3 := hHd (HB.out.trans (hb.mono HB.out.size))
 have x2 : w3.cell? ⟨w.heap.size, 2, none⟩ = some (.int .i64 (1 : Int)) := ((X2.out.below hb X2.out.lt).cell 2).trans rfl
 have x5 : w3.cell? ⟨w.heap.size, 5, none⟩ = some (.slice B L m) := ((X2.out.below hb X2.out.lt).cell 5).trans rfl
 have y1 : w3.cell? ⟨w.heap.size + 1, 1, none⟩ = some (.int .u64 (vn : Int)) := ((Y2.out.below hb Y2.out.lt).cell 1).trans rfl
 have y2 : w3.cell? ⟨w.heap.size + 1, 2, none⟩ = some (.string (txt vt)) := ((Y2.out.below hb Y2.out.lt).cell 2).trans rfl
 clear hb X2 Y2 HB
 go_wp2_with fail
 refine (rleast8_any vn _ hvn).mono ?_
 rintro r w4 ⟨rfl, hb⟩
 have H4 := hHd (H3.out.trans (hb.mono H3.out.size))
 clear hb
 go_wp2
 go_ret
 exact ⟨rfl, H4.out⟩
theorem rdata_num2 (nm : List UInt8) (lo hi : Nat) (ns : List (List UInt8)) (mu : Bool) (mo : Nat) (vn : Nat) (vt : List UInt8) (B : Option Addr) (L m d : Nat) (A : Option Addr) (K c : Nat) (w : World) (hv : Vals w d (.slice B ns.length m) (txts ns)) (hL : ns.length = L) (hn : L ≤ 1000000) (hvn : vn < 18446744073709551616) (hvt : vt.length ≤ 1048576)  (hR : rightX ⟨nm, 1, 2, lo, hi, ns, mu, mo⟩ ⟨2, vn, vt⟩ = true) :
  Calls Tryz.prog 49 #[.agg (cS (txt nm) 1 2 lo hi (.slice B L m) mu mo (.slice A K c)), .agg #[.int .i64 (2 : Int), .int .u64 (vn : Int), .string (txt vt)]] w (AnsP (.string (txt (leastB vn))) w) := by
 have HR : Hid (∀ W, Below w.heap.size w W → Calls Tryz.prog 77 #[.agg (cS (txt nm) 1 2 lo hi (.slice B L m) mu mo (.slice A K c)), .agg #[.int .i64 (2 : Int), .int .u64 (vn : Int), .string (txt vt)]] W (fun r w' => r = .returned (.bool true) ∧ Below W.heap.size W w')) := hHd (fun W hW => by
  have h := vrright_any ⟨nm, 1, 2, lo, hi, ns, mu, mo⟩ ⟨2, vn, vt⟩ B m d A K c W (hv.heap (fun h0 => hW.block d (by obtain ⟨A', c', _, _, h2⟩ := hv; exact (h2 h0).1))) (by simp only; omega) ⟨by simp only; omega, by simp only; omega, hvn, hvt⟩
  rw [hR] at h
  simp only [hL] at h
  exact h)
 have HB : Hid (Below w.heap.size w ((w.alloc (.cells (cS (txt nm) 1 2 lo hi (.slice B L m) mu mo (.slice A K c)) 67)).alloc (.cells #[.int .i64 (2 : Int), .int .u64 (vn : Int), .string (txt vt)] 24))) := hHd (bAl.alloc (by simp) _)
 have X2 : Hid (Blk ((w.alloc (.cells (cS (txt nm) 1 2 lo hi (.slice B L m) mu mo (.slice A K c)) 67)).alloc (.cells #[.int .i64 (2 : Int), .int .u64 (vn : Int), .string (txt vt)] 24)) w.heap.size 67 (cS (txt nm) 1 2 lo hi (.slice B L m) mu mo (.slice A K c))) := hHd ((Blk.new w _ _).alloc _)
 have Y2 : Hid (Blk ((w.alloc (.cells (cS (txt nm) 1 2 lo hi (.slice B L m) mu mo (.slice A K c)) 67)).alloc (.cells #[.int .i64 (2 : Int), .int .u64 (vn : Int), .string (txt vt)] 24)) (w.heap.size + 1) 24 #[.int .i64 (2 : Int), .int .u64 (vn : Int), .string (txt vt)]) := hHd (Blk.new8 (by simp) _ _)
 clear hR hv hn hL
 go_enter Tryz.func49, Tryz.ntmps49
 go_wp2_with fail
 refine (HR.out _ HB.out).mono ?_
 rintro r w3 ⟨rfl, hb⟩
 have H3 := hHd (HB.out.trans (hb.mono HB.out.size))
 have x2 : w3.cell? ⟨w.heap.size, 2, none⟩ = some (.int .i64 (2 : Int)) := ((X2.out.below hb X2.out.lt).cell 2).trans rfl
 have x5 : w3.cell? ⟨w.heap.size, 5, none⟩ = some (.slice B L m) := ((X2.out.below hb X2.out.lt).cell 5).trans rfl
 have y1 : w3.cell? ⟨w.heap.size + 1, 1, none⟩ = some (.int .u64 (vn : Int)) := ((Y2.out.below hb Y2.out.lt).cell 1).trans rfl
 have y2 : w3.cell? ⟨w.heap.size + 1, 2, none⟩ = some (.string (txt vt)) := ((Y2.out.below hb Y2.out.lt).cell 2).trans rfl
 clear hb X2 Y2 HB
 go_wp2_with fail
 refine (rleast8_any vn _ hvn).mono ?_
 rintro r w4 ⟨rfl, hb⟩
 have H4 := hHd (H3.out.trans (hb.mono H3.out.size))
 clear hb
 go_wp2
 go_ret
 exact ⟨rfl, H4.out⟩
theorem rdata_bool (nm : List UInt8) (lo hi : Nat) (ns : List (List UInt8)) (mu : Bool) (mo : Nat) (vn : Nat) (vt : List UInt8) (B : Option Addr) (L m d : Nat) (A : Option Addr) (K c : Nat) (w : World) (hv : Vals w d (.slice B ns.length m) (txts ns)) (hL : ns.length = L) (hn : L ≤ 1000000) (hvn : vn < 18446744073709551616) (hvt : vt.length ≤ 1048576)  (hR : rightX ⟨nm, 1, 3, lo, hi, ns, mu, mo⟩ ⟨3, vn, vt⟩ = true) :
  Calls Tryz.prog 49 #[.agg (cS (txt nm) 1 3 lo hi (.slice B L m) mu mo (.slice A K c)), .agg #[.int .i64 (3 : Int), .int .u64 (vn : Int), .string (txt vt)]] w (AnsP (.string (txt (bigB vn 1))) w) := by
 have HR : Hid (∀ W, Below w.heap.size w W → Calls Tryz.prog 77 #[.agg (cS (txt nm) 1 3 lo hi (.slice B L m) mu mo (.slice A K c)), .agg #[.int .i64 (3 : Int), .int .u64 (vn : Int), .string (txt vt)]] W (fun r w' => r = .returned (.bool true) ∧ Below W.heap.size W w')) := hHd (fun W hW => by
  have h := vrright_any ⟨nm, 1, 3, lo, hi, ns, mu, mo⟩ ⟨3, vn, vt⟩ B m d A K c W (hv.heap (fun h0 => hW.block d (by obtain ⟨A', c', _, _, h2⟩ := hv; exact (h2 h0).1))) (by simp only; omega) ⟨by simp only; omega, by simp only; omega, hvn, hvt⟩
  rw [hR] at h
  simp only [hL] at h
  exact h)
 have HB : Hid (Below w.heap.size w ((w.alloc (.cells (cS (txt nm) 1 3 lo hi (.slice B L m) mu mo (.slice A K c)) 67)).alloc (.cells #[.int .i64 (3 : Int), .int .u64 (vn : Int), .string (txt vt)] 24))) := hHd (bAl.alloc (by simp) _)
 have X2 : Hid (Blk ((w.alloc (.cells (cS (txt nm) 1 3 lo hi (.slice B L m) mu mo (.slice A K c)) 67)).alloc (.cells #[.int .i64 (3 : Int), .int .u64 (vn : Int), .string (txt vt)] 24)) w.heap.size 67 (cS (txt nm) 1 3 lo hi (.slice B L m) mu mo (.slice A K c))) := hHd ((Blk.new w _ _).alloc _)
 have Y2 : Hid (Blk ((w.alloc (.cells (cS (txt nm) 1 3 lo hi (.slice B L m) mu mo (.slice A K c)) 67)).alloc (.cells #[.int .i64 (3 : Int), .int .u64 (vn : Int), .string (txt vt)] 24)) (w.heap.size + 1) 24 #[.int .i64 (3 : Int), .int .u64 (vn : Int), .string (txt vt)]) := hHd (Blk.new8 (by simp) _ _)
 clear hR hv hn hL
 go_enter Tryz.func49, Tryz.ntmps49
 go_wp2_with fail
 refine (HR.out _ HB.out).mono ?_
 rintro r w3 ⟨rfl, hb⟩
 have H3 := hHd (HB.out.trans (hb.mono HB.out.size))
 have x2 : w3.cell? ⟨w.heap.size, 2, none⟩ = some (.int .i64 (3 : Int)) := ((X2.out.below hb X2.out.lt).cell 2).trans rfl
 have x5 : w3.cell? ⟨w.heap.size, 5, none⟩ = some (.slice B L m) := ((X2.out.below hb X2.out.lt).cell 5).trans rfl
 have y1 : w3.cell? ⟨w.heap.size + 1, 1, none⟩ = some (.int .u64 (vn : Int)) := ((Y2.out.below hb Y2.out.lt).cell 1).trans rfl
 have y2 : w3.cell? ⟨w.heap.size + 1, 2, none⟩ = some (.string (txt vt)) := ((Y2.out.below hb Y2.out.lt).cell 2).trans rfl
 clear hb X2 Y2 HB
 go_wp2_with fail
 refine (rbig8_any vn 1 1 _ hvn (by omega) rfl).mono ?_
 rintro r w4 ⟨rfl, hb⟩
 have H4 := hHd (H3.out.trans (hb.mono H3.out.size))
 clear hb
 go_wp2
 go_ret
 exact ⟨rfl, H4.out⟩
theorem rdata_enum (nm : List UInt8) (lo hi : Nat) (ns : List (List UInt8)) (mu : Bool) (mo : Nat) (vn : Nat) (vt : List UInt8) (B : Option Addr) (L m d : Nat) (A : Option Addr) (K c : Nat) (w : World) (hv : Vals w d (.slice B ns.length m) (txts ns)) (hL : ns.length = L) (hn : L ≤ 1000000) (hvn : vn < 18446744073709551616) (hvt : vt.length ≤ 1048576) (i : Nat) (h1 : whichX ns vt = some i) (hR : rightX ⟨nm, 1, 4, lo, hi, ns, mu, mo⟩ ⟨4, vn, vt⟩ = true) :
  Calls Tryz.prog 49 #[.agg (cS (txt nm) 1 4 lo hi (.slice B L m) mu mo (.slice A K c)), .agg #[.int .i64 (4 : Int), .int .u64 (vn : Int), .string (txt vt)]] w (AnsP (.string (txt (bigB i 1))) w) := by
 have HR : Hid (∀ W, Below w.heap.size w W → Calls Tryz.prog 77 #[.agg (cS (txt nm) 1 4 lo hi (.slice B L m) mu mo (.slice A K c)), .agg #[.int .i64 (4 : Int), .int .u64 (vn : Int), .string (txt vt)]] W (fun r w' => r = .returned (.bool true) ∧ Below W.heap.size W w')) := hHd (fun W hW => by
  have h := vrright_any ⟨nm, 1, 4, lo, hi, ns, mu, mo⟩ ⟨4, vn, vt⟩ B m d A K c W (hv.heap (fun h0 => hW.block d (by obtain ⟨A', c', _, _, h2⟩ := hv; exact (h2 h0).1))) (by simp only; omega) ⟨by simp only; omega, by simp only; omega, hvn, hvt⟩
  rw [hR] at h
  simp only [hL] at h
  exact h)
 have HB : Hid (Below w.heap.size w ((w.alloc (.cells (cS (txt nm) 1 4 lo hi (.slice B L m) mu mo (.slice A K c)) 67)).alloc (.cells #[.int .i64 (4 : Int), .int .u64 (vn : Int), .string (txt vt)] 24))) := hHd (bAl.alloc (by simp) _)
 have X2 : Hid (Blk ((w.alloc (.cells (cS (txt nm) 1 4 lo hi (.slice B L m) mu mo (.slice A K c)) 67)).alloc (.cells #[.int .i64 (4 : Int), .int .u64 (vn : Int), .string (txt vt)] 24)) w.heap.size 67 (cS (txt nm) 1 4 lo hi (.slice B L m) mu mo (.slice A K c))) := hHd ((Blk.new w _ _).alloc _)
 have Y2 : Hid (Blk ((w.alloc (.cells (cS (txt nm) 1 4 lo hi (.slice B L m) mu mo (.slice A K c)) 67)).alloc (.cells #[.int .i64 (4 : Int), .int .u64 (vn : Int), .string (txt vt)] 24)) (w.heap.size + 1) 24 #[.int .i64 (4 : Int), .int .u64 (vn : Int), .string (txt vt)]) := hHd (Blk.new8 (by simp) _ _)
 have HV := hHd hv
 have HL := hHd hL
 have HC : Hid (∀ W, Below w.heap.size w W → Calls Tryz.prog 80 #[.slice B L m, .string (txt vt)] W (fun r w' => r = .returned (.int .i64 (i : Int)) ∧ W = w')) := hHd (fun W hW => by
  have h := rwhich_any ns vt d B m W (hv.heap (fun h0 => hW.block d (by obtain ⟨A', c', _, _, h2⟩ := hv; exact (h2 h0).1))) (by omega)
  rw [hL] at h
  unfold whichI at h
  rw [h1] at h
  exact h)
 have hi : i < L := by have := (List.getElem?_eq_some_iff.1 (which_some h1).1).1; omega
 have i0 : (0 : Int) ≤ (i : Int) := by omega
 have i1 : (i : Int) ≤ 1000000 := by omega
 have i2 : i < 18446744073709551616 := by omega
 clear h1 HV HL
 clear hR hv hn hL
 go_enter Tryz.func49, Tryz.ntmps49
 go_wp2_with fail
 refine (HR.out _ HB.out).mono ?_
 rintro r w3 ⟨rfl, hb⟩
 have H3 := hHd (HB.out.trans (hb.mono HB.out.size))
 have x2 : w3.cell? ⟨w.heap.size, 2, none⟩ = some (.int .i64 (4 : Int)) := ((X2.out.below hb X2.out.lt).cell 2).trans rfl
 have x5 : w3.cell? ⟨w.heap.size, 5, none⟩ = some (.slice B L m) := ((X2.out.below hb X2.out.lt).cell 5).trans rfl
 have y1 : w3.cell? ⟨w.heap.size + 1, 1, none⟩ = some (.int .u64 (vn : Int)) := ((Y2.out.below hb Y2.out.lt).cell 1).trans rfl
 have y2 : w3.cell? ⟨w.heap.size + 1, 2, none⟩ = some (.string (txt vt)) := ((Y2.out.below hb Y2.out.lt).cell 2).trans rfl
 clear hb X2 Y2 HB
 go_wp2_with fail
 refine (HC.out _ H3.out).mono ?_
 rintro r w4 ⟨rfl, rfl⟩
 go_wp2_with fail
 refine (rbig8_any i 1 1 _ i2 (by omega) rfl).mono ?_
 rintro r w5 ⟨rfl, hb⟩
 have H5 := hHd (H3.out.trans (hb.mono H3.out.size))
 clear hb
 go_wp2
 go_ret
 exact ⟨rfl, H5.out⟩
theorem rdata_text5 (nm : List UInt8) (lo hi : Nat) (ns : List (List UInt8)) (mu : Bool) (mo : Nat) (vn : Nat) (vt : List UInt8) (B : Option Addr) (L m d : Nat) (A : Option Addr) (K c : Nat) (w : World) (hv : Vals w d (.slice B ns.length m) (txts ns)) (hL : ns.length = L) (hn : L ≤ 1000000) (hvn : vn < 18446744073709551616) (hvt : vt.length ≤ 1048576)  (hR : rightX ⟨nm, 1, 5, lo, hi, ns, mu, mo⟩ ⟨5, vn, vt⟩ = true) :
  Calls Tryz.prog 49 #[.agg (cS (txt nm) 1 5 lo hi (.slice B L m) mu mo (.slice A K c)), .agg #[.int .i64 (5 : Int), .int .u64 (vn : Int), .string (txt vt)]] w (AnsP (.string (txt vt)) w) := by
 have HR : Hid (∀ W, Below w.heap.size w W → Calls Tryz.prog 77 #[.agg (cS (txt nm) 1 5 lo hi (.slice B L m) mu mo (.slice A K c)), .agg #[.int .i64 (5 : Int), .int .u64 (vn : Int), .string (txt vt)]] W (fun r w' => r = .returned (.bool true) ∧ Below W.heap.size W w')) := hHd (fun W hW => by
  have h := vrright_any ⟨nm, 1, 5, lo, hi, ns, mu, mo⟩ ⟨5, vn, vt⟩ B m d A K c W (hv.heap (fun h0 => hW.block d (by obtain ⟨A', c', _, _, h2⟩ := hv; exact (h2 h0).1))) (by simp only; omega) ⟨by simp only; omega, by simp only; omega, hvn, hvt⟩
  rw [hR] at h
  simp only [hL] at h
  exact h)
 have HB : Hid (Below w.heap.size w ((w.alloc (.cells (cS (txt nm) 1 5 lo hi (.slice B L m) mu mo (.slice A K c)) 67)).alloc (.cells #[.int .i64 (5 : Int), .int .u64 (vn : Int), .string (txt vt)] 24))) := hHd (bAl.alloc (by simp) _)
 have X2 : Hid (Blk ((w.alloc (.cells (cS (txt nm) 1 5 lo hi (.slice B L m) mu mo (.slice A K c)) 67)).alloc (.cells #[.int .i64 (5 : Int), .int .u64 (vn : Int), .string (txt vt)] 24)) w.heap.size 67 (cS (txt nm) 1 5 lo hi (.slice B L m) mu mo (.slice A K c))) := hHd ((Blk.new w _ _).alloc _)
 have Y2 : Hid (Blk ((w.alloc (.cells (cS (txt nm) 1 5 lo hi (.slice B L m) mu mo (.slice A K c)) 67)).alloc (.cells #[.int .i64 (5 : Int), .int .u64 (vn : Int), .string (txt vt)] 24)) (w.heap.size + 1) 24 #[.int .i64 (5 : Int), .int .u64 (vn : Int), .string (txt vt)]) := hHd (Blk.new8 (by simp) _ _)
 clear hR hv hn hL
 go_enter Tryz.func49, Tryz.ntmps49
 go_wp2_with fail
 refine (HR.out _ HB.out).mono ?_
 rintro r w3 ⟨rfl, hb⟩
 have H3 := hHd (HB.out.trans (hb.mono HB.out.size))
 have x2 : w3.cell? ⟨w.heap.size, 2, none⟩ = some (.int .i64 (5 : Int)) := ((X2.out.below hb X2.out.lt).cell 2).trans rfl
 have x5 : w3.cell? ⟨w.heap.size, 5, none⟩ = some (.slice B L m) := ((X2.out.below hb X2.out.lt).cell 5).trans rfl
 have y1 : w3.cell? ⟨w.heap.size + 1, 1, none⟩ = some (.int .u64 (vn : Int)) := ((Y2.out.below hb Y2.out.lt).cell 1).trans rfl
 have y2 : w3.cell? ⟨w.heap.size + 1, 2, none⟩ = some (.string (txt vt)) := ((Y2.out.below hb Y2.out.lt).cell 2).trans rfl
 clear hb X2 Y2 HB
 go_wp2
 go_ret
 exact ⟨rfl, H3.out⟩
theorem rdata_text6 (nm : List UInt8) (lo hi : Nat) (ns : List (List UInt8)) (mu : Bool) (mo : Nat) (vn : Nat) (vt : List UInt8) (B : Option Addr) (L m d : Nat) (A : Option Addr) (K c : Nat) (w : World) (hv : Vals w d (.slice B ns.length m) (txts ns)) (hL : ns.length = L) (hn : L ≤ 1000000) (hvn : vn < 18446744073709551616) (hvt : vt.length ≤ 1048576)  (hR : rightX ⟨nm, 1, 6, lo, hi, ns, mu, mo⟩ ⟨6, vn, vt⟩ = true) :
  Calls Tryz.prog 49 #[.agg (cS (txt nm) 1 6 lo hi (.slice B L m) mu mo (.slice A K c)), .agg #[.int .i64 (6 : Int), .int .u64 (vn : Int), .string (txt vt)]] w (AnsP (.string (txt vt)) w) := by
 have HR : Hid (∀ W, Below w.heap.size w W → Calls Tryz.prog 77 #[.agg (cS (txt nm) 1 6 lo hi (.slice B L m) mu mo (.slice A K c)), .agg #[.int .i64 (6 : Int), .int .u64 (vn : Int), .string (txt vt)]] W (fun r w' => r = .returned (.bool true) ∧ Below W.heap.size W w')) := hHd (fun W hW => by
  have h := vrright_any ⟨nm, 1, 6, lo, hi, ns, mu, mo⟩ ⟨6, vn, vt⟩ B m d A K c W (hv.heap (fun h0 => hW.block d (by obtain ⟨A', c', _, _, h2⟩ := hv; exact (h2 h0).1))) (by simp only; omega) ⟨by simp only; omega, by simp only; omega, hvn, hvt⟩
  rw [hR] at h
  simp only [hL] at h
  exact h)
 have HB : Hid (Below w.heap.size w ((w.alloc (.cells (cS (txt nm) 1 6 lo hi (.slice B L m) mu mo (.slice A K c)) 67)).alloc (.cells #[.int .i64 (6 : Int), .int .u64 (vn : Int), .string (txt vt)] 24))) := hHd (bAl.alloc (by simp) _)
 have X2 : Hid (Blk ((w.alloc (.cells (cS (txt nm) 1 6 lo hi (.slice B L m) mu mo (.slice A K c)) 67)).alloc (.cells #[.int .i64 (6 : Int), .int .u64 (vn : Int), .string (txt vt)] 24)) w.heap.size 67 (cS (txt nm) 1 6 lo hi (.slice B L m) mu mo (.slice A K c))) := hHd ((Blk.new w _ _).alloc _)
 have Y2 : Hid (Blk ((w.alloc (.cells (cS (txt nm) 1 6 lo hi (.slice B L m) mu mo (.slice A K c)) 67)).alloc (.cells #[.int .i64 (6 : Int), .int .u64 (vn : Int), .string (txt vt)] 24)) (w.heap.size + 1) 24 #[.int .i64 (6 : Int), .int .u64 (vn : Int), .string (txt vt)]) := hHd (Blk.new8 (by simp) _ _)
 clear hR hv hn hL
 go_enter Tryz.func49, Tryz.ntmps49
 go_wp2_with fail
 refine (HR.out _ HB.out).mono ?_
 rintro r w3 ⟨rfl, hb⟩
 have H3 := hHd (HB.out.trans (hb.mono HB.out.size))
 have x2 : w3.cell? ⟨w.heap.size, 2, none⟩ = some (.int .i64 (6 : Int)) := ((X2.out.below hb X2.out.lt).cell 2).trans rfl
 have x5 : w3.cell? ⟨w.heap.size, 5, none⟩ = some (.slice B L m) := ((X2.out.below hb X2.out.lt).cell 5).trans rfl
 have y1 : w3.cell? ⟨w.heap.size + 1, 1, none⟩ = some (.int .u64 (vn : Int)) := ((Y2.out.below hb Y2.out.lt).cell 1).trans rfl
 have y2 : w3.cell? ⟨w.heap.size + 1, 2, none⟩ = some (.string (txt vt)) := ((Y2.out.below hb Y2.out.lt).cell 2).trans rfl
 clear hb X2 Y2 HB
 go_wp2
 go_ret
 exact ⟨rfl, H3.out⟩
theorem rdata_no (nm : List UInt8) (kd ty lo hi : Nat) (ns : List (List UInt8)) (mu : Bool) (mo : Nat) (vk : Int) (vn : Nat) (vt : List UInt8) (B : Option Addr) (L m d : Nat) (A : Option Addr) (K c : Nat) (w : World) (hv : Vals w d (.slice B ns.length m) (txts ns)) (hL : ns.length = L) (hn : L ≤ 1000000) (hok : VlOk ⟨vk, vn, vt⟩) (hR : rightX ⟨nm, kd, ty, lo, hi, ns, mu, mo⟩ ⟨vk, vn, vt⟩ = false) :
  Calls Tryz.prog 49 #[.agg (cS (txt nm) kd ty lo hi (.slice B L m) mu mo (.slice A K c)), .agg #[.int .i64 vk, .int .u64 (vn : Int), .string (txt vt)]] w (AnsP (.string (txt [])) w) := by
 have HR : Hid (∀ W, Below w.heap.size w W → Calls Tryz.prog 77 #[.agg (cS (txt nm) kd ty lo hi (.slice B L m) mu mo (.slice A K c)), .agg #[.int .i64 vk, .int .u64 (vn : Int), .string (txt vt)]] W (fun r w' => r = .returned (.bool false) ∧ Below W.heap.size W w')) := hHd (fun W hW => by
  have h := vrright_any ⟨nm, kd, ty, lo, hi, ns, mu, mo⟩ ⟨vk, vn, vt⟩ B m d A K c W (hv.heap (fun h0 => hW.block d (by obtain ⟨A', c', _, _, h2⟩ := hv; exact (h2 h0).1))) (by simp only; omega) hok
  rw [hR] at h
  simp only [hL] at h
  exact h)
 have HB : Hid (Below w.heap.size w ((w.alloc (.cells (cS (txt nm) kd ty lo hi (.slice B L m) mu mo (.slice A K c)) 67)).alloc (.cells #[.int .i64 vk, .int .u64 (vn : Int), .string (txt vt)] 24))) := hHd (bAl.alloc (by simp) _)
 clear hR hv hn hL hok
 go_enter Tryz.func49, Tryz.ntmps49
 go_wp2_with fail
 refine (HR.out _ HB.out).mono ?_
 rintro r w3 ⟨rfl, hb⟩
 have H3 := hHd (HB.out.trans (hb.mono HB.out.size))
 clear hb HB
 go_wp2
 go_ret
 exact ⟨rfl, H3.out⟩
theorem rdata_any (a : SpD) (v : Vl) (B : Option Addr) (m d : Nat) (A : Option Addr) (K c : Nat) (w : World) (hv : Vals w d (.slice B a.names.length m) (txts a.names)) (hn : a.names.length ≤ 1000000) (hok : VlOk v) : Calls Tryz.prog 49 #[.agg (spC a (.slice B a.names.length m) (.slice A K c)).toArray, .agg (vC v).toArray] w (AnsP (.string (txt (dataX a v))) w) := by
 cases hR : rightX a v with
 | false =>
  have e : dataX a v = [] := by unfold dataX; rw [if_pos hR]
  rw [e]
  exact rdata_no _ _ _ _ _ _ _ _ _ _ _ _ _ _ _ _ _ _ _ hv rfl hn hok hR
 | true =>
  have hl := right_leaf hR
  have hc := right_cases hR
  have ht : dataX a v = if a.typ = 1 ∨ a.typ = 2 then leastB v.num else if a.typ = 3 then [UInt8.ofNat v.num] else if a.typ = 4 then [UInt8.ofNat ((whichX a.names v.text).getD 0)] else v.text := by unfold dataX; rw [if_neg (by rw [hR]; decide)]
  rw [ht]
  obtain ⟨nm, kd, ty, lo, hi, ns, mu, mo⟩ := a
  obtain ⟨vk, vn, vt⟩ := v
  obtain ⟨-, -, o3, o4⟩ := hok
  simp only at *
  obtain ⟨rfl, rfl⟩ := hl
  have b1 : ∀ x, bigB x 1 = [UInt8.ofNat x] := fun x => by rw [bigB_cons8]; simp [bigB_zero]
  rcases hc with ⟨rfl | rfl, -⟩ | ⟨rfl, -⟩ | ⟨rfl, ⟨i, hi'⟩, -⟩ | ⟨rfl | rfl, -⟩
  ·exact rdata_num1 nm lo hi ns mu mo vn vt B ns.length m d A K c w hv rfl hn o3 o4 hR
  ·exact rdata_num2 nm lo hi ns mu mo vn vt B ns.length m d A K c w hv rfl hn o3 o4 hR
  ·rw [if_neg (by omega), if_pos rfl, ← b1]; exact rdata_bool nm lo hi ns mu mo vn vt B ns.length m d A K c w hv rfl hn o3 o4 hR
  ·rw [if_neg (by omega), if_neg (by omega), if_pos rfl, hi', Option.getD_some, ← b1]; exact rdata_enum nm lo hi ns mu mo vn vt B ns.length m d A K c w hv rfl hn o3 o4 i hi' hR
  ·exact rdata_text5 nm lo hi ns mu mo vn vt B ns.length m d A K c w hv rfl hn o3 o4 hR
  ·exact rdata_text6 nm lo hi ns mu mo vn vt B ns.length m d A K c w hv rfl hn o3 o4 hR
end Go.Proofs.YtodlhgflfcadmaaGreat
