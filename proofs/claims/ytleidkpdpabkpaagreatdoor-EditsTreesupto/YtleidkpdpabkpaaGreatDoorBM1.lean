/- OctB OctC OctD OctE OctF OctG OctH -/
import Derived.Test.YtleidkpdpabkpaaGreatDoorBM0
import Derived.Deep.AppendLies
set_option linter.unusedSimpArgs false
set_option linter.unusedVariables false
set_option maxRecDepth 100000
set_option maxHeartbeats 8000000
namespace Go.Proofs.YtleidkpdpabkpaaGreatDoor
open Go.RowKit
theorem Tryz.cells22o : (Tryz.prog.info? 5).map (fun i => (i.zero, i.size, i.bytes)) = some (some (.int .u8 0), 1, 1) := by kernel_rfl
section
variable {w : World} {d n k c : Nat} {A : Option Addr} {l : List UInt8}
theorem Rd.take (h : Rd w d (.slice A n c) l) (hk : k ≤ n) : Rd w d (.slice A k c) (l.take k) := by
 obtain ⟨A', c', hv, h1, h2, h3⟩ := h
 injection hv with e1 e2 e3
 subst e1 e2 e3
 have hl : (l.take k).length = k := by simp; omega
 refine ⟨A, c, by rw [hl], by omega, by omega, fun hp => ?_⟩
 obtain ⟨off, rfl, hc⟩ := h3 (by omega)
 exact ⟨off, rfl, fun j b hb => hc j b (by rw [List.getElem?_take] at hb; split at hb <;> simp_all)⟩
theorem Rd.drop (h : Rd w d (.slice A n c) l) (hk : k ≤ n) (_hne : ¬ c = k) : Rd w d (.slice (Option.map (fun x => x.add k) A) (n - k) (c - k)) (l.drop k) := by
 obtain ⟨A', c', hv, h1, h2, h3⟩ := h
 injection hv with e1 e2 e3
 subst e1 e2 e3
 have hl : (l.drop k).length = l.length - k := by simp
 refine ⟨_, _, by rw [hl], by omega, by omega, fun hp => ?_⟩
 obtain ⟨off, rfl, hc⟩ := h3 (by omega)
 refine ⟨off + k, ?_, fun j b hb => ?_⟩
 ·simp only [Option.map_some, Addr.add]
  by_cases h0 : k = 0 <;> simp [h0]
 ·have := hc (k + j) b (by rw [← hb, List.getElem?_drop])
  rwa [← Nat.add_assoc] at this
theorem Rd.drop_end (h : Rd w d (.slice A n c) l) (hk : k ≤ n) (he : c = k) : Rd w d (.slice A (n - k) 0) (l.drop k) := by
 obtain ⟨A', c', hv, h1, h2, h3⟩ := h
 injection hv with e1 e2 e3
 subst e1 e2 e3
 have hl : (l.drop k).length = l.length - k := by simp
 exact ⟨_, _, by rw [hl], by omega, by omega, fun hp => absurd hp (by omega)⟩
end
def nx (l : List UInt8) (e n : Int) : List UInt8 × List UInt8 × Int :=
 if e ≠ 0 then ([], l, e) else if n < 0 then ([], l, 1) else if (l.length : Int) < n then ([], l, 10) else (l.take n.toNat, l.drop n.toNat, 0)
def NextPost (g d : Nat) (l : List UInt8) (e n : Int) (w : World) (r : Ending) (w' : World) : Prop :=
 ∃ v, r = .returned v ∧ Rd w' d v (nx l e n).1 ∧ Win w' g d (nx l e n).2.1 (nx l e n).2.2 ∧ w.grownBy w' (some g) ∧ Sz w' w.heap.size
theorem grown_set {w : World} {g i : Nat} (u : Value) : w.grownBy (w.setCell ⟨g, i, none⟩ u) (some g) :=
 ⟨rfl, rfl, rfl, by simp [World.setCell], fun k _ hne => Below.heap_setCell w _ u k (fun e => hne (by rw [e]))⟩
theorem next_any (g d : Nat) (l : List UInt8) (e n : Int) (w : World) (h : Win w g d l e) (hd : d ≠ g) :
  Calls Tryz.prog 87 #[.pointer (some ⟨g, 0, none⟩), .int .i64 n] w (NextPost g d l e n w) := by
 have hw := h
 obtain ⟨v, hb, hr⟩ := h
 have hr' := hr
 obtain ⟨A, c, rfl, hlc, hc47, hA⟩ := hr
 have h0 : w.cell? ⟨g, 0, none⟩ = some (.slice A l.length c) := by rw [hb.cell]; rfl
 have h1 : w.cell? ⟨g, 1, none⟩ = some (.int .i64 e) := by rw [hb.cell]; rfl
 have f0 : w.frozen? ⟨g, 0, none⟩ = false := hb.frozen 0
 have f1 : w.frozen? ⟨g, 1, none⟩ = false := hb.frozen 1
 by_cases he : e = 0
 ·subst he
  by_cases hn : n < 0
  ·have Hp : NextPost g d l 0 n w (.returned (.slice none 0 0)) (w.setCell ⟨g, 1, none⟩ (.int .i64 1)) := by
    have hx : nx l 0 n = ([], l, 1) := by simp [nx, hn]
    refine ⟨_, rfl, ?_, ?_, grown_set _, by simp [Sz, World.setCell]⟩
    ·rw [hx]; exact Rd.nil _ _
    ·rw [hx]; exact ⟨_, hb.set_ 1 _, hr'.setCell (by simpa using hd) _⟩
   have HP := hHd Hp
   clear Hp
   go_enter Tryz.func87, Tryz.ntmps87
   go_wp2_with (go_at_call 107; refine (err_any g d l _ _ hw).mono ?_; rintro r w' ⟨rfl, rfl⟩)
   go_ret
   exact HP.out
  ·by_cases hn2 : (l.length : Int) < n
   ·have Hp : NextPost g d l 0 n w (.returned (.slice none 0 0)) (w.setCell ⟨g, 1, none⟩ (.int .i64 10)) := by
     have hx : nx l 0 n = ([], l, 10) := by simp [nx, hn, hn2]
     refine ⟨_, rfl, ?_, ?_, grown_set _, by simp [Sz, World.setCell]⟩
     ·rw [hx]; exact Rd.nil _ _
     ·rw [hx]; exact ⟨_, hb.set_ 1 _, hr'.setCell (by simpa using hd) _⟩
    have HP := hHd Hp
    clear Hp
    go_enter Tryz.func87, Tryz.ntmps87
    go_wp2_with (go_at_call 107; refine (err_any g d l _ _ hw).mono ?_; rintro r w' ⟨rfl, rfl⟩)
    go_ret
    exact HP.out
   ·obtain ⟨k, rfl⟩ := Int.eq_ofNat_of_zero_le (Int.not_lt.mp hn)
    have hk : k ≤ l.length := by omega
    have hx : nx l 0 (k : Int) = (l.take k, l.drop k, 0) := by simp [nx, hn, hn2]
    have Hp1 : c = k → NextPost g d l 0 k w (.returned (.slice A k k)) (w.setCell ⟨g, 0, none⟩ (.slice A (l.length - k) 0)) := by
     rintro rfl
     refine ⟨_, rfl, ?_, ?_, grown_set _, by simp [Sz, World.setCell]⟩
     ·rw [hx]; exact (hr'.take hk).setCell (by simpa using hd) _
     ·rw [hx]; exact ⟨_, hb.set_ 0 _, (hr'.drop_end hk rfl).setCell (by simpa using hd) _⟩
    have Hp2 : ¬ c = k → NextPost g d l 0 k w (.returned (.slice A k c)) (w.setCell ⟨g, 0, none⟩ (.slice (Option.map (fun x => x.add k) A) (l.length - k) (c - k))) := by
     intro hne
     refine ⟨_, rfl, ?_, ?_, grown_set _, by simp [Sz, World.setCell]⟩
     ·rw [hx]; exact (hr'.take hk).setCell (by simpa using hd) _
     ·rw [hx]; exact ⟨_, hb.set_ 0 _, (hr'.drop hk hne).setCell (by simpa using hd) _⟩
    have HP1 := hHd Hp1
    have HP2 := hHd Hp2
    clear Hp1 Hp2 hx
    go_enter Tryz.func87, Tryz.ntmps87
    go_wp2_with (go_at_call 107; refine (err_any g d l _ _ hw).mono ?_; rintro r w' ⟨rfl, rfl⟩)
    all_goals
     go_ret
     first | exact HP1.out ‹_› | exact HP2.out ‹_›
 ·have Hp : NextPost g d l e n w (.returned (.slice none 0 0)) w := by
   have hx : nx l e n = ([], l, e) := by simp [nx, he]
   refine ⟨_, rfl, ?_, ?_, World.grownBy.refl w _, rfl⟩
   ·rw [hx]; exact Rd.nil _ _
   ·rw [hx]; exact hw
  have HP := hHd Hp
  clear Hp
  have hb : (e != 0) = true := by simpa using he
  go_enter Tryz.func87, Tryz.ntmps87
  go_wp2_with (go_at_call 107; refine (err_any g d l _ _ hw).mono ?_; rintro r w' ⟨rfl, rfl⟩)
  go_ret
  exact HP.out
def CopyPost (l : List UInt8) (w : World) (r : Ending) (w' : World) : Prop :=
 r = .returned (.slice (some ⟨w.heap.size, 0, none⟩) l.length l.length) ∧ Blk w' w.heap.size 5 (l.map byteV).toArray ∧ Below w.heap.size w w' ∧ Sz w' (w.heap.size + 1)
theorem copied_any (d : Nat) (v : Value) (l : List UInt8) (w : World) (h : Rd w d v l) :
  Calls Tryz.prog 86 #[v] w (CopyPost l w) := by
 have hr := h
 obtain ⟨A, c, rfl, hlc, hc47, hA⟩ := h
 have hmk := run_make_row' (P := Tryz.prog) 25 5 (.int .u8 0) 1 Tryz.underlying25 Tryz.cells22o rfl .i64 .i64 l.length (by omega) (by omega)
 have hcp : ∃ w2, (Builtin.copy_ #[25, 25] 3 #[.slice (some ⟨w.heap.size, 0, none⟩) l.length l.length, .slice A l.length c]).run Tryz.prog (w.alloc (.cells (madeCells #[Value.int .u8 0] l.length) 5)) = .ok (goInt l.length) w2 ∧
   Blk w2 w.heap.size 5 (l.map byteV).toArray ∧ Below w.heap.size w w2 ∧ w2.heap.size = w.heap.size + 1 := by
  have hg : Blk (w.alloc (.cells (madeCells #[Value.int .u8 0] l.length) 5)) w.heap.size 5 (madeCells #[Value.int .u8 0] l.length) := Blk.new _ _ _
  by_cases hl : 0 < l.length
  ·obtain ⟨off, rfl, hc⟩ := hA hl
   have hrun := run_copy_row (P := Tryz.prog) (w.alloc (.cells (madeCells #[Value.int .u8 0] l.length) 5)) 25 25 3 5 w.heap.size 0 l.length l.length ⟨d, off, none⟩ l.length c (madeCells #[Value.int .u8 0] l.length) 5 (l.map byteV)
    Tryz.underlying25 (by kernel_rfl) hg (by simp) (fun j v hj => ?_) (by simp [size_madeCells]) (fun v hv => ?_)
   ·have hE : (List.take 0 (madeCells #[Value.int .u8 0] l.length).toList ++ List.map byteV l ++ List.drop (0 + (List.map byteV l).length) (madeCells #[Value.int .u8 0] l.length).toList) = l.map byteV := by
     rw [List.drop_of_length_le (by simp [size_madeCells])]
     simp
    rw [hE, List.length_map] at hrun
    refine ⟨(w.alloc (.cells (madeCells #[Value.int .u8 0] l.length) 5)).setRow w.heap.size (l.map byteV).toArray, hrun, ?_, below_setRow bAl (Nat.le_refl _) _, by simp [World.setRow]⟩
    exact setRow_heap (w.alloc (.cells (madeCells #[Value.int .u8 0] l.length) 5)) w.heap.size (madeCells #[Value.int .u8 0] l.length) (l.map byteV).toArray 5 (0, 0) hg
   ·obtain ⟨b, hb, rfl⟩ : ∃ b, l[j]? = some b ∧ byteV b = v := by simpa using hj
    have hlt : d < w.heap.size := hr.lt hl
    have h1 : ((⟨d, off, none⟩ : Addr).add j) = ⟨d, off + j, none⟩ := by
     simp only [Addr.add]; by_cases h0 : j = 0 <;> simp [h0]
    rw [h1, World.cell?_alloc_lt w _ _ hlt]
    exact hc j b hb
   ·obtain ⟨b, _, rfl⟩ := List.mem_map.1 hv
    rfl
  ·have hl0 : l = [] := List.eq_nil_of_length_eq_zero (by omega)
   subst hl0
   have hrun := run_copy_none (P := Tryz.prog) (w.alloc (.cells (madeCells #[Value.int .u8 0] 0) 5)) 25 25 3 5 (some ⟨w.heap.size, 0, none⟩) A 0 0 0 c Tryz.underlying25 (by kernel_rfl) (by simp)
   have hg' : Blk (w.alloc (.cells (madeCells #[Value.int .u8 0] 0) 5)) w.heap.size 5 #[] := by
    have h := Blk.new w 5 (madeCells #[Value.int .u8 0] 0)
    have e : madeCells #[Value.int .u8 0] 0 = #[] := by simp [madeCells]
    rw [e] at h ⊢
    exact h
   exact ⟨_, by simpa using hrun, hg', bAl, by simp⟩
 obtain ⟨w2, hcp, hblk, hbel, hsz⟩ := hcp
 have HB := hHd hblk
 have HL := hHd hbel
 have HS := hHd hsz
 clear hblk hbel hsz
 go_enter Tryz.func86, Tryz.ntmps86
 go_wp2
 go_ret
 exact ⟨rfl, HB.out, HL.out, HS.out⟩
def Below64 (n : Nat) : Prop := n < 18446744073709551616
instance (n : Nat) : Decidable (Below64 n) := inferInstanceAs (Decidable (n < 18446744073709551616))
theorem value_yes (d : Nat) (v : Value) (l : List UInt8) (w : World) (h : Rd w d v l) (hv : valB l < 18446744073709551616) :
  Calls Tryz.prog 127 #[v] w fun r w' => r = .returned (.tuple #[.int .u64 (valB l : Int), .bool true]) ∧ w = w' := by
 obtain ⟨A, c, rfl, hlc, hc47, hA⟩ := h
 go_enter Tryz.func127, Tryz.ntmps127
 go_wp2
 go_loop [4, 9] (fun x i => ∃ k : Nat, k ≤ l.length ∧ i = .int .i64 k ∧ x = .int .u64 (valB (l.take k) : Int)) (fun _ i => l.length - (intOf i).toNat)
 case atStart => exact ⟨0, Nat.zero_le _, rfl, rfl⟩
 case round =>
  obtain ⟨k, hk, rfl, rfl⟩ := hrel
  by_cases hlt : k < l.length
  ·obtain ⟨off, rfl, hc⟩ := hA (by omega)
   have hcell : w.cell? ⟨d, off + k, none⟩ = some (.int .u8 (l[k].toNat : Int)) := hc k _ (List.getElem?_eq_getElem hlt)
   have hsn := valB_take_snoc l k hlt
   have hle := valB_take_le l (k + 1)
   have hby := byte_lt l[k]
   have h56 : ((valB (l.take k) : Int) / 72057594037927936 != 0) = false := by simp; omega
   have hor : bits .or .u64 (IntKind.u64.wrap ((valB (l.take k) : Int) * 256)) (l[k].toNat : Int) = (valB (l.take (k + 1)) : Int) := by
    have h1 := u64_or_nat (valB (l.take k) * 256) l[k].toNat (by omega) (by omega)
    rw [nat_join 8 (valB (l.take k) * 256) l[k].toNat (by omega) (by omega)] at h1
    rw [hsn, IntKind.wrap_u64, Int.emod_eq_of_lt (by omega) (by omega)]
    simpa using h1
   have HOR := hHd hor
   clear hA hc hsn hor hle
   go_wp2
   go_round
   case rel => exact ⟨k + 1, by omega, by go_num, by rw [HOR.out]⟩
   case measure => simp [intOf]; omega
  ·go_wp2
   go_ret2
   exact ⟨by rw [List.take_of_length_le (by omega)]; rfl, rfl⟩
theorem value_no (d : Nat) (v : Value) (l : List UInt8) (w : World) (h : Rd w d v l) (hv : ¬ valB l < 18446744073709551616) :
  Calls Tryz.prog 127 #[v] w fun r w' => r = .returned (.tuple #[.int .u64 0, .bool false]) ∧ w = w' := by
 obtain ⟨A, c, rfl, hlc, hc47, hA⟩ := h
 have HV := hHd hv
 clear hv
 go_enter Tryz.func127, Tryz.ntmps127
 go_wp2
 go_loop [4, 9] (fun x i => ∃ k : Nat, k ≤ l.length ∧ Below64 (valB (l.take k)) ∧ i = .int .i64 k ∧ x = .int .u64 (valB (l.take k) : Int)) (fun _ i => l.length - (intOf i).toNat)
 case atStart => exact ⟨0, Nat.zero_le _, by simp [valB, Below64], rfl, rfl⟩
 case round =>
  obtain ⟨k, hk, h64, rfl, rfl⟩ := hrel
  by_cases hlt : k < l.length
  ·obtain ⟨off, rfl, hc⟩ := hA (by omega)
   have hcell : w.cell? ⟨d, off + k, none⟩ = some (.int .u8 (l[k].toNat : Int)) := hc k _ (List.getElem?_eq_getElem hlt)
   have hsn := valB_take_snoc l k hlt
   have hby := byte_lt l[k]
   by_cases h56' : valB (l.take k) / 72057594037927936 = 0
   ·have h56 : ((valB (l.take k) : Int) / 72057594037927936 != 0) = false := by simp; omega
    have h64' : Below64 (valB (l.take (k + 1))) := by unfold Below64; omega
    have hor : bits .or .u64 (IntKind.u64.wrap ((valB (l.take k) : Int) * 256)) (l[k].toNat : Int) = (valB (l.take (k + 1)) : Int) := by
     have h1 := u64_or_nat (valB (l.take k) * 256) l[k].toNat (by omega) (by omega)
     rw [nat_join 8 (valB (l.take k) * 256) l[k].toNat (by omega) (by omega)] at h1
     rw [hsn, IntKind.wrap_u64, Int.emod_eq_of_lt (by omega) (by omega)]
     simpa using h1
    have HOR := hHd hor
    clear hA hc hsn hor h56'
    go_wp2
    go_round
    case rel => exact ⟨k + 1, by omega, h64', by go_num, by rw [HOR.out]⟩
    case measure => simp [intOf]; omega
   ·have h56 : ((valB (l.take k) : Int) / 72057594037927936 != 0) = true := by simp; omega
    clear hA hc hsn h56'
    go_wp2
    go_ret2
    exact ⟨rfl, rfl⟩
  ·exfalso
   rw [List.take_of_length_le (by omega)] at h64
   exact HV.out h64
def bigRow (x n k : Nat) : Array Value := ((List.range n).map fun j => if n ≤ j + k then byteV (UInt8.ofNat (x / 256 ^ (n - 1 - j))) else Value.int .u8 0).toArray
theorem bigRow_size (x n k : Nat) : (bigRow x n k).size = n := by simp [bigRow]
theorem bigRow_zero (x n : Nat) : bigRow x n 0 = madeCells #[Value.int .u8 0] n := by
 apply Array.ext
 ·simp [bigRow, size_madeCells]
 ·intro i h1 h2
  have hi : i < n := by simpa [bigRow] using h1
  have hm : i % 1 = 0 := Nat.mod_one i
  simp [bigRow, madeCells, hm]
  intro h
  omega
theorem bigRow_full (x n : Nat) : bigRow x n n = ((bigB x n).map byteV).toArray := by
 unfold bigRow bigB
 rw [List.map_map]
 congr 1
 refine List.map_congr_left fun j _ => ?_
 rw [if_pos (by omega)]; rfl
theorem bigRow_step (x n k j : Nat) (h : j + k + 1 = n) : (bigRow x n k).setIfInBounds j (byteV (UInt8.ofNat (x / 256 ^ k))) = bigRow x n (k + 1) := by
 apply Array.ext
 ·simp [bigRow]
 ·intro i h1 h2
  have hi : i < n := by simpa [bigRow] using h2
  rw [Array.getElem_setIfInBounds (by simpa [bigRow] using hi)]
  split
  ·next e =>
   subst e
   simp [bigRow]
   rw [if_pos (by omega)]
   congr 4
   omega
  ·next e =>
   simp [bigRow]
   by_cases hc : n ≤ i + k
   ·rw [if_pos hc, if_pos (by omega)]
   ·rw [if_neg hc, if_neg (by omega)]
theorem shr_8k (x k : Nat) : Value.int .u8 ((x : Int) / 2 ^ (8 * k) % 256) = byteV (UInt8.ofNat (x / 256 ^ k)) := by
 unfold byteV
 rw [ofNat_toNat]
 have e : (2 : Int) ^ (8 * k) = ((256 ^ k : Nat) : Int) := by
  have h : (2 : Nat) ^ (8 * k) = 256 ^ k := by rw [Nat.pow_mul]
  rw [← h]; simp
 rw [e]
 congr 1
def BigPost (x n : Nat) (w : World) (r : Ending) (w' : World) : Prop :=
 r = .returned (.slice (some ⟨w.heap.size, 0, none⟩) n n) ∧ Blk w' w.heap.size 5 ((bigB x n).map byteV).toArray ∧ Below w.heap.size w w' ∧ Sz w' (w.heap.size + 1)
theorem fits_yes {n : Int} (h1 : 1 ≤ n) (h2 : n ≤ 8) : fitsB n = true := by simp [fitsB, h1, h2]
theorem fits_no {n : Int} (h : ¬ (1 ≤ n ∧ n ≤ 8)) : fitsB n = false := by simp [fitsB]; omega
theorem big_no (x : Int) (n : Int) (w : World) (h : ¬ (1 ≤ n ∧ n ≤ 8)) :
  Calls Tryz.prog 115 #[.int .u64 x, .int .i64 n] w fun r w' => r = .returned (.slice none 0 0) ∧ w = w' := by
 have hf := fits_no h
 go_enter Tryz.func115, Tryz.ntmps115
 go_wp2_with (go_at_call 122; refine (fits_any _ _).mono ?_; rintro r w' ⟨rfl, rfl⟩)
 go_ret
 exact ⟨rfl, rfl⟩
theorem big_yes (x n : Nat) (w : World) (h1 : 1 ≤ n) (h2 : n ≤ 8) :
  Calls Tryz.prog 115 #[.int .u64 (x : Int), .int .i64 (n : Int)] w (BigPost x n w) := by
 have hf := fits_yes (n := (n : Int)) (by omega) (by omega)
 have hmk := run_make_row' (P := Tryz.prog) 25 5 (.int .u8 0) 1 Tryz.underlying25 Tryz.cells22o rfl .i64 .i64 n (by omega) (by omega)
 go_enter Tryz.func115, Tryz.ntmps115
 go_wp2_with (go_at_call 122; refine (fits_any _ _).mono ?_; rintro r w' ⟨rfl, rfl⟩)
 clear hmk hf
 go_loopw [14] (fun i wr => ∃ k : Nat, k ≤ n ∧ i = .int .i64 k ∧ Hid (Blk wr w.heap.size 5 (bigRow x n k)) ∧ Below w.heap.size w wr ∧ Hid (wr.heap.size = w.heap.size + 1)) (fun i _ => n - (intOf i).toNat)
 case atStart =>
  refine ⟨0, Nat.zero_le _, rfl, ?_, bAl, ?_⟩
  ·show Blk _ _ _ _
   rw [bigRow_zero]; exact Blk.new _ _ _
  ·show _ = _
   simp
 case round =>
  obtain ⟨k, hk, rfl, HB, hbel, HS⟩ := hrel
  by_cases hlt : k < n
  ·obtain ⟨j, hj⟩ : ∃ j, j + k + 1 = n := ⟨n - k - 1, by omega⟩
   have hjn : (n : Int) - 1 - (k : Int) = (j : Int) := by omega
   have hjlt : j < n := by omega
   have hfz : wr.frozen? ⟨w.heap.size, j, none⟩ = false := HB.out.frozen j
   obtain ⟨u, hcell⟩ : ∃ u, wr.cell? ⟨w.heap.size, j, none⟩ = some u := ⟨_, by rw [HB.out.cell]; exact Array.getElem?_eq_getElem (by rw [bigRow_size]; exact hjlt)⟩
   have HJ := hHd hj
   clear hj
   go_wp2
   go_roundw
   case rel =>
    refine ⟨k + 1, by omega, by go_num, ?_, hbel.setCell (Nat.le_refl _) _, ?_⟩
    ·show Blk _ _ _ _
     rw [shr_8k, ← bigRow_step x n k j HJ.out]
     exact HB.out.set_ j _
    ·show _ = _
     simpa [World.setCell] using HS.out
   case measure => simp [intOf]; omega
  ·go_wp2
   go_ret
   obtain rfl : k = n := by omega
   exact ⟨rfl, by rw [← bigRow_full]; exact HB.out, hbel, HS.out⟩
theorem big_rd {x n : Nat} {w : World} {r : Ending} {w' : World} (h : BigPost x n w r w') (hn : n ≤ 8) : ∃ v, r = .returned v ∧ v = .slice (some ⟨w.heap.size, 0, none⟩) n n ∧ Rd w' w.heap.size v (bigB x n) := by
 obtain ⟨rfl, hb, _, _⟩ := h
 have hr := Rd.of_blk hb (by rw [bigB_length]; omega)
 rw [bigB_length] at hr
 exact ⟨_, rfl, rfl, hr⟩
def BigAny (x n : Nat) (w : World) (r : Ending) (w' : World) : Prop :=
 ∃ v, r = .returned v ∧ Rd w' w.heap.size v (bigB x n) ∧ Below w.heap.size w w' ∧ w'.heap.size ≤ w.heap.size + 1
theorem big_any (x n : Nat) (w : World) (h : n ≤ 8) :
  Calls Tryz.prog 115 #[.int .u64 (x : Int), .int .i64 (n : Int)] w (BigAny x n w) := by
 rcases Nat.eq_zero_or_pos n with rfl | h1
 ·exact (big_no x 0 w (by omega)).mono fun r w' ⟨hr, hw⟩ => ⟨_, hr, Rd.nil _ _, by rw [hw]; exact Below.refl _ _, by rw [hw]; omega⟩
 ·refine (big_yes x n w h1 h).mono fun r w' hp => ?_
  obtain ⟨v, hr, hv, hrd⟩ := big_rd hp h
  exact ⟨v, hr, hrd, hp.2.2.1, by have h := hp.2.2.2; unfold Sz at h; omega⟩
def least (x : Nat) : Nat := lenB 8 x
theorem least_spec {x : Nat} (h : x < 18446744073709551616) : x < 256 ^ least x ∧ (0 < least x → 256 ^ (least x - 1) ≤ x) ∧ least x ≤ 8 := lenB_spec 8 x (by omega)
theorem pow_mono {a b : Nat} (h : a ≤ b) : 256 ^ a ≤ 256 ^ b := Nat.pow_le_pow_right (by decide) h
theorem least_test {x k : Nat} (h : x < 18446744073709551616) (hk : k ≤ least x) : ((x : Int) / 2 ^ (8 * k) != 0) = decide (k < least x) := by
 have e : (2 : Int) ^ (8 * k) = ((256 ^ k : Nat) : Int) := by
  have h : (2 : Nat) ^ (8 * k) = 256 ^ k := by rw [Nat.pow_mul]
  rw [← h]; simp
 obtain ⟨h1, h2, _⟩ := least_spec h
 rw [e]
 rcases Nat.lt_or_ge k (least x) with hlt | hge
 ·have hp : 256 ^ k ≤ x := Nat.le_trans (pow_mono (by omega)) (h2 (by omega))
  have hd : 0 < x / 256 ^ k := Nat.div_pos hp (Nat.pow_pos (by decide))
  have : ((x : Int) / ((256 ^ k : Nat) : Int)) = ((x / 256 ^ k : Nat) : Int) := by simp
  rw [this]
  generalize x / 256 ^ k = q at hd
  simp [hlt]
  omega
 ·obtain rfl : k = least x := by omega
  have hd : x / 256 ^ least x = 0 := Nat.div_eq_of_lt h1
  have : ((x : Int) / ((256 ^ least x : Nat) : Int)) = ((x / 256 ^ least x : Nat) : Int) := by simp
  rw [this, hd]
  simp
theorem least_any (x : Nat) (w : World) (h : x < 18446744073709551616) :
  Calls Tryz.prog 103 #[.int .u64 (x : Int)] w (BigAny x (least x) w) := by
 have h8 := (least_spec h).2.2
 have HX := hHd h
 clear h
 go_enter Tryz.func103, Tryz.ntmps103
 go_wp2
 go_loop [3] (fun i => ∃ k : Nat, k ≤ least x ∧ i = .int .i64 k) (fun i => least x - (intOf i).toNat)
 case atStart => exact ⟨0, Nat.zero_le _, rfl⟩
 case round =>
  obtain ⟨k, hk, rfl⟩ := hrel
  have ht := least_test HX.out hk
  by_cases hlt : k < least x
  ·rw [decide_eq_true hlt] at ht
   go_wp2
   go_round
   case rel => exact ⟨k + 1, by omega, by go_num⟩
   case measure => simp [intOf]; omega
  ·rw [decide_eq_false hlt] at ht
   have hk' : Hid (k = least x) := hHd (by omega)
   clear hlt
   go_wp2_with (go_at_call 115; refine (big_any x k _ (by omega)).mono ?_; rintro r w' ⟨v, rfl, hr, hb, hs⟩)
   go_ret
   exact ⟨_, rfl, by rw [← hk'.out]; exact hr, hb, hs⟩
def OpenPost (l : List UInt8) (w : World) (r : Ending) (w' : World) : Prop :=
 r = .returned (.pointer (some ⟨w.heap.size + 1, 0, none⟩)) ∧ Win w' (w.heap.size + 1) w.heap.size l 0 ∧ Below w.heap.size w w' ∧ Sz w' (w.heap.size + 2)
theorem open_any (d : Nat) (v : Value) (l : List UInt8) (w : World) (h : Rd w d v l) : Calls Tryz.prog 59 #[v] w (OpenPost l w) := by
 have hlen := h.len
 go_enter Tryz.func59, Tryz.ntmps59
 go_wp2_with (go_at_call 86; refine (copied_any d v l _ h).mono ?_; rintro r w1 ⟨rfl, hb, hbel, hs⟩)
 go_ret
 have hs' : w1.heap.size = w.heap.size + 1 := hs
 refine ⟨by rw [← hs']; rfl, ⟨_, by rw [← hs']; exact Blk.new _ _ _, (Rd.of_blk hb hlen).alloc _⟩, hbel.alloc (by omega) _, by simp [Sz, hs']⟩
def nm (l : List UInt8) (e n : Int) : Nat × List UInt8 × Int :=
 if e = 0 ∧ ¬ (1 ≤ n ∧ n ≤ 8) then (0, l, 1) else (valB (nx l e n).1, (nx l e n).2.1, (nx l e n).2.2)
theorem nx_err {l : List UInt8} {e n : Int} (h : e ≠ 0) : nx l e n = ([], l, e) := by simp [nx, h]
theorem nx_short {l : List UInt8} {n : Int} (h : 0 ≤ n) (h2 : (l.length : Int) < n) : nx l 0 n = ([], l, 10) := by simp [nx, h2]; omega
theorem nx_ok {l : List UInt8} {n : Int} (h : 0 ≤ n) (h2 : n ≤ l.length) : nx l 0 n = (l.take n.toNat, l.drop n.toNat, 0) := by
 have a : ¬ n < 0 := by omega
 have b : ¬ (l.length : Int) < n := by omega
 simp [nx, a, b]
theorem nx_len (l : List UInt8) (e n : Int) : ((nx l e n).1.length : Int) ≤ max n 0 := by
 unfold nx
 split
 ·simp; omega
 ·split
  ·simp; omega
  ·split
   ·simp; omega
   ·simp; omega
def NumPost (g d : Nat) (l : List UInt8) (e n : Int) (w : World) (r : Ending) (w' : World) : Prop :=
 r = .returned (.int .u64 ((nm l e n).1 : Int)) ∧ Win w' g d (nm l e n).2.1 (nm l e n).2.2 ∧ w.grownBy w' (some g) ∧ Sz w' w.heap.size
theorem pow_val {l : List UInt8} (h : l.length ≤ 8) : valB l < 18446744073709551616 :=
 Nat.lt_of_lt_of_le (valB_lt l) (Nat.le_trans (pow_mono h) (by decide))
theorem num_any (g d : Nat) (l : List UInt8) (e n : Int) (w : World) (h : Win w g d l e) (hd : d ≠ g) :
  Calls Tryz.prog 126 #[.pointer (some ⟨g, 0, none⟩), .int .i64 n] w (NumPost g d l e n w) := by
 by_cases he : e = 0
 ·subst he
  by_cases hf : 1 ≤ n ∧ n ≤ 8
  ·have hb := fits_yes hf.1 hf.2
   have hl := nx_len l 0 n
   have hnm : nm l 0 n = (valB (nx l 0 n).1, (nx l 0 n).2.1, (nx l 0 n).2.2) := by simp [nm, hf]
   have hval : valB (nx l 0 n).1 < 18446744073709551616 := pow_val (by omega)
   have HN := hHd hnm
   have HV := hHd hval
   clear hnm hval hf hl
   go_enter Tryz.func126, Tryz.ntmps126
   go_wp2_with (first | (go_at_call 107; refine (err_any g d l _ _ h).mono ?_; rintro r w' ⟨rfl, rfl⟩) | (go_at_call 122; refine (fits_any _ _).mono ?_; rintro r w' ⟨rfl, rfl⟩) | (go_at_call 87; refine (next_any g d l 0 n _ h hd).mono ?_; rintro r w1 ⟨v, rfl, hr, hwin, hg, hs⟩) | (go_at_call 127; refine (value_yes d v _ _ hr HV.out).mono ?_; rintro r w' ⟨rfl, rfl⟩))
   go_ret
   exact ⟨by rw [HN.out]; rfl, by rw [HN.out]; exact hwin, hg, hs⟩
  ·have hb := fits_no hf
   have hnm : nm l 0 n = (0, l, 1) := by simp [nm]; omega
   have hx : nx l 1 n = ([], l, 1) := nx_err (by decide)
   obtain ⟨vv, hblk, hrr⟩ := h
   have hblk' := hblk
   have h1 : w.cell? ⟨g, 1, none⟩ = some (.int .i64 0) := by rw [hblk.cell]; rfl
   have f1 : w.frozen? ⟨g, 1, none⟩ = false := hblk.frozen 1
   have hwin : Win (w.setCell ⟨g, 1, none⟩ (.int .i64 1)) g d l 1 := ⟨_, hblk.set_ 1 _, hrr.setCell (by simpa using hd) _⟩
   have hnext := next_any g d l 1 n _ hwin hd
   have HN := hHd hnm
   have HX := hHd hx
   have HC := hHd hnext
   have h0 : Win w g d l 0 := ⟨vv, hblk', hrr⟩
   clear hnm hx hnext hf
   go_enter Tryz.func126, Tryz.ntmps126
   go_wp2_with (first | (go_at_call 107; refine (err_any g d l _ _ h0).mono ?_; rintro r w' ⟨rfl, rfl⟩) | (go_at_call 122; refine (fits_any _ _).mono ?_; rintro r w' ⟨rfl, rfl⟩) | (go_at_call 87; refine (HC.out).mono ?_; rintro r w1 ⟨v, rfl, hr, hwin1, hg, hs⟩; rw [HX.out] at hr hwin1) | (go_at_call 127; refine (value_yes d v _ _ hr (by simp [valB])).mono ?_; rintro r w' ⟨rfl, rfl⟩))
   go_ret
   refine ⟨by rw [HN.out]; rfl, by rw [HN.out]; exact hwin1, (grown_set _).trans hg, ?_⟩
   have hs' : w1.heap.size = (w.setCell ⟨g, 1, none⟩ (.int .i64 1)).heap.size := hs
   simpa [Sz, World.setCell] using hs'
 ·have hb : (e == 0) = false := by simpa using he
  have hx : nx l e n = ([], l, e) := nx_err he
  have hnm : nm l e n = (0, l, e) := by simp [nm, he, hx, valB]
  have HN := hHd hnm
  have HX := hHd hx
  clear hnm hx
  go_enter Tryz.func126, Tryz.ntmps126
  go_wp2_with (first | (go_at_call 107; refine (err_any g d l _ _ h).mono ?_; rintro r w' ⟨rfl, rfl⟩) | (go_at_call 87; refine (next_any g d l e n _ h hd).mono ?_; rintro r w1 ⟨v, rfl, hr, hwin, hg, hs⟩; rw [HX.out] at hr hwin) | (go_at_call 127; refine (value_yes d v _ _ hr (by simp [valB])).mono ?_; rintro r w' ⟨rfl, rfl⟩))
  go_ret
  exact ⟨by rw [HN.out]; rfl, by rw [HN.out]; exact hwin, hg, hs⟩
theorem nm_one_lt (l : List UInt8) (e : Int) : (nm l e 1).1 < 256 := by
 have hl := nx_len l e 1
 have h := valB_lt (nx l e 1).1
 have h2 : valB (nx l e 1).1 < 256 := Nat.lt_of_lt_of_le h (Nat.le_trans (pow_mono (b := 1) (by omega)) (by decide))
 unfold nm
 split
 ·show 0 < 256
  decide
 ·exact h2
def BytePost (g d : Nat) (l : List UInt8) (e : Int) (w : World) (r : Ending) (w' : World) : Prop :=
 r = .returned (.int .u8 ((nm l e 1).1 : Int)) ∧ Win w' g d (nm l e 1).2.1 (nm l e 1).2.2 ∧ w.grownBy w' (some g) ∧ Sz w' w.heap.size
theorem byte_any (g d : Nat) (l : List UInt8) (e : Int) (w : World) (h : Win w g d l e) (hd : d ≠ g) :
  Calls Tryz.prog 118 #[.pointer (some ⟨g, 0, none⟩)] w (BytePost g d l e w) := by
 have hlt := nm_one_lt l e
 go_enter Tryz.func118, Tryz.ntmps118
 go_wp2_with (go_at_call 126; refine (num_any g d l e 1 _ h hd).mono ?_; rintro r w1 ⟨rfl, hwin, hg, hs⟩)
 go_ret
 refine ⟨?_, hwin, hg, hs⟩
 first | rfl | (congr 2; omega)
def BytesPost (g d : Nat) (l : List UInt8) (e n : Int) (w : World) (r : Ending) (w' : World) : Prop :=
 ∃ v, r = .returned v ∧ Rd w' w.heap.size v (nx l e n).1 ∧ Win w' g d (nx l e n).2.1 (nx l e n).2.2 ∧ w.grownBy w' (some g) ∧ Sz w' (w.heap.size + 1)
theorem grown_below {a b c : World} {g : Nat} (h : a.grownBy b (some g)) (k : Below b.heap.size b c) : a.grownBy c (some g) :=
 ⟨k.os.trans h.os, k.tape.trans h.tape, k.output.trans h.output, Nat.le_trans h.size k.size, fun i hi hne => (k.block i (Nat.lt_of_lt_of_le hi h.size)).trans (h.block i hi hne)⟩
theorem bytes_any (g d : Nat) (l : List UInt8) (e n : Int) (w : World) (h : Win w g d l e) (hd : d ≠ g) :
  Calls Tryz.prog 58 #[.pointer (some ⟨g, 0, none⟩), .int .i64 n] w (BytesPost g d l e n w) := by
 go_enter Tryz.func58, Tryz.ntmps58
 go_wp2_with (first | (go_at_call 87; refine (next_any g d l e n _ h hd).mono ?_; rintro r w1 ⟨v, rfl, hr, hwin, hg, hs⟩) | (go_at_call 86; refine (copied_any d v _ _ hr).mono ?_; rintro r w2 ⟨rfl, hb, hbel, hs2⟩))
 go_ret
 have e1 : w1.heap.size = w.heap.size := hs
 have e2 : w2.heap.size = w1.heap.size + 1 := hs2
 exact ⟨_, rfl, by rw [← e1]; exact Rd.of_blk hb hr.len, hwin.below hbel, grown_below hg hbel, by show _ = _; rw [e2, e1]⟩
def SubPost (g d : Nat) (l : List UInt8) (e n : Int) (w : World) (r : Ending) (w' : World) : Prop :=
 r = .returned (.pointer (some ⟨w.heap.size + 1, 0, none⟩)) ∧ Win w' (w.heap.size + 1) w.heap.size (nx l e n).1 (nx l e n).2.2 ∧
  Win w' g d (nx l e n).2.1 (nx l e n).2.2 ∧ w.grownBy w' (some g) ∧ Sz w' (w.heap.size + 2)
theorem sub_any (g d : Nat) (l : List UInt8) (e n : Int) (w : World) (h : Win w g d l e) (hd : d ≠ g) :
  Calls Tryz.prog 85 #[.pointer (some ⟨g, 0, none⟩), .int .i64 n] w (SubPost g d l e n w) := by
 go_enter Tryz.func85, Tryz.ntmps85
 go_wp2_with (first | (go_at_call 58; refine (bytes_any g d l e n _ h hd).mono ?_; rintro r w1 ⟨v, rfl, hr, hwin, hg, hs⟩; obtain ⟨A, c, rfl, hr'⟩ := id hr; clear hr') | (go_at_call 107; refine (err_any g d _ _ _ hwin).mono ?_; rintro r w2 ⟨rfl, rfl⟩))
 go_ret
 have e1 : w1.heap.size = w.heap.size + 1 := hs
 refine ⟨by rw [← e1]; rfl, ⟨_, by rw [← e1]; exact Blk.new _ _ _, hr.alloc _⟩, hwin.alloc _, ?_, by simp [Sz, e1]⟩
 exact grown_below hg bAl
theorem str_of {w : World} {d : Nat} {v : Value} {l : List UInt8} (h : Rd w d v l) : (convert 25 9 v).run Tryz.prog w = .ok (.string ⟨l.toArray⟩) w := by
 obtain ⟨A, c, rfl, h1, h2, h3⟩ := h
 rcases A with _ | a
 ·have hl : l = [] := by
   rcases Nat.eq_zero_or_pos l.length with h0 | h0
   ·exact List.eq_nil_of_length_eq_zero h0
   ·obtain ⟨_, he, _⟩ := h3 h0
    cases he
  subst hl
  rw [run_convert_bytes_nil w 25 5 Tryz.underlying25 Tryz.underlying5 _ _ 9 Tryz.underlying9]
  rfl
 ·refine run_convert_bytes_back w 25 9 5 a c l Tryz.underlying25 Tryz.underlying5 Tryz.underlying9 (fun j hj => ?_)
  obtain ⟨off, he, hc⟩ := h3 (by omega)
  injection he with he
  subst he
  have := hc j _ (List.getElem?_eq_getElem hj)
  have e : (⟨d, off, none⟩ : Addr).add j = ⟨d, off + j, none⟩ := by unfold Addr.add; split <;> simp_all
  rw [e]
  exact this
def Own (w : World) (base : Nat) (v : Value) (l : List UInt8) : Prop := w.ownsRow base 5 1 v l.length (l.map byteV)
section
variable {w w' : World} {base : Nat} {v : Value} {l : List UInt8}
theorem Own.nil (w : World) (base : Nat) : Own w base (.slice none 0 0) [] := World.ownsRow_nil w base 5 1
theorem Own.below (h : Own w base v l) (hb : Below w.heap.size w w') : Own w' base v l :=
 World.ownsRow.kept h ⟨hb.os, hb.tape, hb.output, hb.size, fun k hk _ => hb.block k hk⟩ (row := none) (by cases hv : v.ownBlock <;> simp)
theorem Own.rd (h : Own w base v l) (hl : l.length ≤ 140737488355328) : ∃ d, base ≤ d ∧ (v.ownBlock = none ∧ v = .slice none 0 0 ∨ v.ownBlock = some d ∧ d < w.heap.size) ∧ Rd w d v l := by
 have hh := h
 obtain ⟨_, h2⟩ := h
 rcases h2 with ⟨rfl, hn⟩ | ⟨g, cap, cur, rfl, hb, hg, hnc, hcm, hs, ht⟩
 ·have : l = [] := List.eq_nil_of_length_eq_zero hn
  subst this
  exact ⟨base, Nat.le_refl _, .inl ⟨rfl, rfl⟩, Rd.nil _ _⟩
 ·have hlt : g < w.heap.size := by
   rcases Nat.lt_or_ge g w.heap.size with hlt | hge
   ·exact hlt
   ·rw [Array.getElem?_eq_none hge] at hg; cases hg
  refine ⟨g, hb, .inr ⟨rfl, hlt⟩, _, cap, rfl, hnc, hl, fun _ => ⟨0, rfl, fun j b hj => ?_⟩⟩
  have hjl : j < l.length := (List.getElem?_eq_some_iff.1 hj).1
  rw [World.ownsRow.cellAt hh (0 + j) (by omega)]
  simp [hj]
theorem Own.made (w : World) (n : Nat) (b : UInt8) (hb : base ≤ w.heap.size) (hn : n ≤ 140737488355328) (cs : Array Value) (hcs : cs = ((List.replicate n b).map byteV).toArray) :
  Own (w.alloc (.cells cs 5)) base (.slice (some ⟨w.heap.size, 0, none⟩) n n) (List.replicate n b) := by
 subst hcs
 refine ⟨by simp, .inr ⟨w.heap.size, n, _, by simp, hb, heap_alloc_new w _, by simp, by unfold maxLen; omega, by simp, ?_⟩⟩
 simp only [Nat.mul_one]
 exact List.take_of_length_le (by simp)
end
theorem run_append_rd (w : World) (base : Nat) (v : Value) (l0 : List UInt8) (hown : Own w base v l0) (d : Nat) (u : Value) (l : List UInt8) (h : Rd w d u l)
  (hb : l0.length + l.length ≤ 140737488355328) (hbase : base ≤ w.heap.size) :
  ∃ v' w', (Builtin.append_ #[25, 25] 25 #[v, u]).run Tryz.prog w = .ok v' w' ∧ Own w' base v' (l0 ++ l) ∧ w.grownBy w' v.ownBlock ∧ (v'.ownBlock = v.ownBlock ∨ v'.ownBlock = some w.heap.size) := by
 obtain ⟨i, hi, hz0, hz1, hz2⟩ := info_parts Tryz.cells22o
 obtain ⟨A, c, rfl, h1, h2, h3⟩ := h
 have one : ∀ x ∈ l.map byteV, x.oneCell' = true := by
  intro x hx
  obtain ⟨b, _, rfl⟩ := List.mem_map.1 hx
  rfl
 rcases A with _ | ad
 ·have hl : l = [] := by
   rcases Nat.eq_zero_or_pos l.length with h0 | h0
   ·exact List.eq_nil_of_length_eq_zero h0
   ·obtain ⟨_, he, _⟩ := h3 h0
    cases he
  subst hl
  refine ⟨v, w, ?_, by simpa using hown, World.grownBy.refl w _, .inl rfl⟩
  have hown' := hown
  rcases hown.2 with ⟨rfl, _⟩ | ⟨g, cap, cur, rfl, _, _, hnc, _⟩
  ·simp [Builtin.append_, run_underlying Tryz.underlying25, sizeOf, typeInfo, hi, Builtin.lenOf, Builtin.firstCells]
  ·simp [Builtin.append_, run_underlying Tryz.underlying25, sizeOf, typeInfo, hi, Builtin.lenOf, Builtin.firstCells, hnc, storeCells]
 ·have hcells : ∀ j x, (l.map byteV)[j]? = some x → w.cell? (ad.add j) = some x := by
   intro j x hj
   obtain ⟨b, hb', rfl⟩ : ∃ b, l[j]? = some b ∧ byteV b = x := by simpa using hj
   have hjl : j < l.length := (List.getElem?_eq_some_iff.1 hb').1
   obtain ⟨off, he, hc⟩ := h3 (by omega)
   injection he with he
   subst he
   have e : (⟨d, off, none⟩ : Addr).add j = ⟨d, off + j, none⟩ := by unfold Addr.add; split <;> simp_all
   rw [e]
   exact hc j b hb'
  obtain ⟨v', w', hrun, k1, k2, _, k3⟩ := run_append_own_at (P := Tryz.prog) w base 25 25 5 i (.int .u8 0) 1 1 Tryz.underlying25 hi hz0 hz1 hz2 rfl (by decide) v l0.length (l0.map byteV) hown
   ad l.length c (l.map byteV) (by simp) hcells one (by unfold maxLen; omega) (by omega) hbase
  refine ⟨v', w', hrun, ?_, k2, k3⟩
  unfold Own
  rw [List.length_append, List.map_append]
  exact k1
def AppPost (w : World) (base : Nat) (v : Value) (l : List UInt8) (v' : Value) (w' : World) : Prop :=
 Own w' base v' l ∧ w.grownBy w' v.ownBlock ∧ (v'.ownBlock = v.ownBlock ∨ v'.ownBlock = some w.heap.size)
theorem AppPost.below {w w' : World} {base : Nat} {v v' : Value} {l l0 : List UInt8} (h : AppPost w base v l v' w') (hown : Own w base v l0) (hb : base ≤ w.heap.size) : Below base w w' :=
 (Below.refl _ _).grown h.2.1 hb fun k e => (World.ownsRow.lt hown k e).1
theorem wp_append_rd {w : World} {o : Oper} {a : Act} {K : Act → World → Prop} {Q : Exit → Act → World → Prop} (s x : Operand)
  (ho : o.op = .call { callee := .builtin .append, args := #[s, x], argTypes := #[25, 25] }) (hty : o.type = 25)
  (base : Nat) (v : Value) (l0 : List UInt8) (hs : a.eval s = v) (hown : Own w base v l0) (d : Nat) (u : Value) (l : List UInt8) (hx : a.eval x = u) (h : Rd w d u l)
  (hb : l0.length + l.length ≤ 140737488355328) (hbase : base ≤ w.heap.size)
  (hK : ∀ v' w', AppPost w base v (l0 ++ l) v' w' → K (a.put o.dst v') w') : o.wp Tryz.prog a w K Q := by
 obtain ⟨v', w', hrun, h2, h3, h4⟩ := run_append_rd w base v l0 hown d u l h hb hbase
 unfold Oper.wp execOp
 simp only [ho, hty, resolve, invoke, builtin, Sem.run_bind, Sem.run_pure, Result.andThen_ok, List.map_toArray, List.map_cons, List.map_nil, hs, hx, hrun]
 exact hK v' w' ⟨h2, h3, h4⟩
theorem wpList_append_rd {w : World} {ops : Array Oper} {rest : List Oper} {o : Oper} {a : Act} {Q : Exit → Act → World → Prop} (hgd : o.guard = none) (s x : Operand)
  (ho : o.op = .call { callee := .builtin .append, args := #[s, x], argTypes := #[25, 25] }) (hty : o.type = 25)
  (base : Nat) (v : Value) (l0 : List UInt8) (hs : a.eval s = v) (hown : Own w base v l0) (d : Nat) (u : Value) (l : List UInt8) (hx : a.eval x = u) (h : Rd w d u l)
  (hb : l0.length + l.length ≤ 140737488355328) (hbase : base ≤ w.heap.size)
  (hK : ∀ v' w', AppPost w base v (l0 ++ l) v' w' → wpList Tryz.prog ops Q rest (a.put o.dst v') w') : wpList Tryz.prog ops Q (o :: rest) a w :=
 wpList_plain hgd fun _ hK' => wp_append_rd s x ho hty base v l0 hs hown d u l hx h hb hbase fun v' w' hp => hK' _ _ (hK v' w' hp)
end Go.Proofs.YtleidkpdpabkpaaGreatDoor
