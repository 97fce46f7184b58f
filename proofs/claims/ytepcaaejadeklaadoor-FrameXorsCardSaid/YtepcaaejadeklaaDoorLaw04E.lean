/-
  The walk of the law FrameXors: it answers true, for all bytes, and writes nothing that was there, where package frame answers as it is to (FrmC).
-/
import Derived.Test.YtepcaaejadeklaaDoorLaw04A
import Derived.Test.YtepcaaejadeklaaDoorOctI
import Derived.Lib.MinMax
namespace Go.Proofs.YtepcaaejadeklaaDoor
open Go.RowKit
set_option linter.unusedSimpArgs false

theorem crc_not (l : List UInt8) : crc l = 4294967295 ^^^ crL 4294967295 l := by
  have hl := crL_lt l (show 4294967295 < 4294967296 by decide)
  unfold crc
  generalize crL 4294967295 l = x at hl
  have h2 : (4294967296 : Nat) = 2 ^ 32 := by decide
  rw [h2] at hl
  apply Nat.eq_of_testBit_eq
  intro i
  rw [show 4294967295 - x = 2 ^ 32 - (x + 1) by omega, Nat.testBit_two_pow_sub_succ hl, Nat.testBit_xor, show (4294967295 : Nat) = 2 ^ 32 - 1 by decide, Nat.testBit_two_pow_sub_one]
  by_cases hi : i < 32
  · simp [hi]
  · have : x.testBit i = false := Nat.testBit_lt_two_pow (Nat.lt_of_lt_of_le hl (Nat.pow_le_pow_right (by decide) (by omega)))
    simp [hi, this]
theorem crc_xor3 (a b c : List UInt8) (h1 : a.length = b.length) (h2 : a.length = c.length) : crc (xorL (xorL a b) c) = (crc a ^^^ crc b) ^^^ crc c := by
  have h3 := crL_xor (xorL a b) c (by rw [xorL_length a b h1]; exact h2) 0 4294967295
  have h4 := crL_xor a b h1 4294967295 4294967295
  rw [Nat.xor_self] at h4
  rw [Nat.zero_xor] at h3
  rw [crc_not, crc_not a, crc_not b, crc_not c, h3, h4]
  apply Nat.eq_of_testBit_eq
  intro i
  simp only [Nat.testBit_xor]
  cases Nat.testBit 4294967295 i <;> cases (crL 4294967295 a).testBit i <;> cases (crL 4294967295 b).testBit i <;> cases (crL 4294967295 c).testBit i <;> rfl
theorem crc_nil : crc [] = 0 := by decide
theorem xorL_at {l m : List UInt8} : ∀ {j : Nat} {a b : UInt8}, l[j]? = some a → m[j]? = some b → (xorL l m)[j]? = some (a ^^^ b) := by
  induction l generalizing m with
  | nil => intro j a b h; simp at h
  | cons x l ih =>
    intro j a b h1 h2
    cases m with
    | nil => simp at h2
    | cons y m =>
      cases j with
      | zero => simp at h1 h2; subst h1 h2; rfl
      | succ j => simp only [List.getElem?_cons_succ, xorL] at h1 h2 ⊢; exact ih h1 h2
theorem part_set (X : List UInt8) (n j : Nat) (x : UInt8) (hX : X.length = n) (hx : X[j]? = some x) : (X.take j ++ List.replicate (n - j) 0).set j x = X.take (j + 1) ++ List.replicate (n - (j + 1)) 0 := by
  have hj : j < X.length := (List.getElem?_eq_some_iff.1 hx).1
  have hl : (X.take j).length = j := by rw [List.length_take]; omega
  obtain ⟨m, hm⟩ : ∃ m, n - j = m + 1 := ⟨n - j - 1, by omega⟩
  rw [List.set_append_right _ _ (by omega), hl, Nat.sub_self, hm, List.replicate_succ, List.set_cons_zero, List.take_add_one, hx, show n - (j + 1) = m by omega]
  simp
theorem part_done (X : List UInt8) (n : Nat) (hX : X.length = n) : X.take n ++ List.replicate (n - n) 0 = X := by
  rw [Nat.sub_self, List.replicate_zero, List.append_nil, List.take_of_length_le (by omega)]
theorem made_zeros4 (k : Nat) : madeCells #[Value.int .u8 0] k = ((List.replicate k (0 : UInt8)).map byteV).toArray := by
  apply Array.ext
  · simp [size_madeCells]
  · intro i h1 h2
    have hm : i % 1 = 0 := Nat.mod_one i
    simp [madeCells, hm, byteV]
theorem Rd.at4 {w : World} {d : Nat} {A : Option Addr} {n c : Nat} {l : List UInt8} (h : Rd w d (.slice A n c) l) {j : Nat} {b : UInt8} (hj : l[j]? = some b) :
    ∃ off, A = some ⟨d, off, none⟩ ∧ w.cell? ⟨d, off + j, none⟩ = some (byteV b) := by
  obtain ⟨A', c', he, h1, h2, h3⟩ := h
  injection he with e1 e2 e3
  subst e1
  have hl : j < l.length := (List.getElem?_eq_some_iff.1 hj).1
  obtain ⟨off, rfl, hc⟩ := h3 (by omega)
  exact ⟨off, rfl, hc j b hj⟩
theorem Rd.cap4 {w : World} {d : Nat} {A : Option Addr} {n c : Nat} {l : List UInt8} (h : Rd w d (.slice A n c) l) : n ≤ c := by
  obtain ⟨A', c', he, h1, _⟩ := h
  injection he with e1 e2 e3
  omega

theorem IsRow.short {k : IntKind} {w : World} {a : Option Addr} {len n cap : Nat} {zs : List Int} (h : IsRow k w a len cap zs) (hn : n ≤ len) : IsRow k w a n cap zs := by
  rcases h with ⟨h1, h2, h3, h4⟩ | ⟨x, h0, h1, h2, h3⟩
  · exact .inl ⟨h1, by omega, h3, h4⟩
  · exact .inr ⟨x, h0, by omega, h2, h3⟩

set_option maxRecDepth 100000 in
set_option maxHeartbeats 1000000 in
theorem frameXors_walk (a0 : Option Addr) (len0 cap0 : Nat) (z0 : List Int) (a1 : Option Addr) (len1 cap1 : Nat) (z1 : List Int) (a2 : Option Addr) (len2 cap2 : Nat) (z2 : List Int) (w : World) (C : FrmC w)
    (w0 : IsRow .u8 w a0 len0 cap0 z0) (w1 : IsRow .u8 w a1 len1 cap1 z1) (w2 : IsRow .u8 w a2 len2 cap2 z2) :
    Calls Tryd.prog 7 #[.slice a0 len0 cap0, .slice a1 len1 cap1, .slice a2 len2 cap2] w fun e w' => e = .returned (.bool true) ∧ Below w.heap.size w w' := by
  have HC := Lib.hid C
  clear C
  obtain ⟨n, hn⟩ : ∃ n, n = min len0 (min len1 len2) := ⟨_, rfl⟩
  have hmin : min (len0 : Int) (min (len1 : Int) (len2 : Int)) = (n : Int) := by omega
  by_cases h5 : 500 < n
  · have d0 : decide ((500 : Int) < (n : Int)) = true := decide_eq_true (by omega)
    clear h5 hn
    go_enter Tryd.func7, Tryd.ntmps7
    go_wp2_with fail
    refine (awake4_any HC.out _ (Below.refl _ _)).mono ?_
    rintro r w1 ⟨rfl, hB1⟩
    go_wp2
    go_ret
    exact ⟨rfl, hB1⟩
  · have d0 : decide ((500 : Int) < (n : Int)) = false := decide_eq_false (by omega)
    have hn5 : n ≤ 500 := by omega
    have n0 : n ≤ len0 := by omega
    have n1 : n ≤ len1 := by omega
    have n2 : n ≤ len2 := by omega
    clear h5 hn
    obtain ⟨da, A, lA, -, tA⟩ := (w0.short n0).rd (by omega)
    obtain ⟨db, B, lB, -, tB⟩ := (w1.short n1).rd (by omega)
    obtain ⟨dc, Cc, lC, -, tC⟩ := (w2.short n2).rd (by omega)
    have c0 : n ≤ cap0 := tA.cap4
    have c1 : n ≤ cap1 := tB.cap4
    have c2 : n ≤ cap2 := tC.cap4
    obtain ⟨X, hX⟩ : ∃ X, X = xorL (xorL A B) Cc := ⟨_, rfl⟩
    have lX : X.length = n := by rw [hX, xorL_length _ _ (by rw [xorL_length _ _ (by omega)]; omega), xorL_length _ _ (by omega)]; omega
    have hAB := crc_xor3 A B Cc (by omega) (by omega)
    rw [← hX] at hAB
    obtain ⟨KA, hKA⟩ : ∃ K, K = crc A := ⟨_, rfl⟩
    obtain ⟨KB, hKB⟩ : ∃ K, K = crc B := ⟨_, rfl⟩
    obtain ⟨KC, hKC⟩ : ∃ K, K = crc Cc := ⟨_, rfl⟩
    obtain ⟨KX, hKX⟩ : ∃ K, K = crc X := ⟨_, rfl⟩
    obtain ⟨KD, hKD⟩ : ∃ K, K = KA ^^^ KB := ⟨_, rfl⟩
    have kA : KA < 4294967296 := by rw [hKA]; exact crc_lt A
    have kB : KB < 4294967296 := by rw [hKB]; exact crc_lt B
    have kC : KC < 4294967296 := by rw [hKC]; exact crc_lt Cc
    have kD : KD < 4294967296 := by
      rw [hKD]
      have := Nat.xor_lt_two_pow (x := KA) (y := KB) (n := 32) (by omega) (by omega)
      omega
    rw [← hKA, ← hKB, ← hKC, ← hKX, ← hKD] at hAB
    have B1 : Hid (bits .xor .u32 (KA : Int) (KB : Int) = (KD : Int)) := Lib.hid (by rw [hKD]; exact u32_xor_nat KA KB kA kB)
    have B2 : Hid (bits .xor .u32 (KD : Int) (KC : Int) = (KX : Int)) := Lib.hid (by rw [hAB]; exact u32_xor_nat KD KC kD kC)
    have SUM : ∀ (l : List UInt8) (K : Nat), K = crc l → l.length ≤ 500 → ∀ W d v, Hid (Below w.heap.size w W → Rd W d v l → Calls Tryd.prog 14 #[v] W (fun r w' => r = .returned (.int .u32 (K : Int)) ∧ Below W.heap.size W w')) := fun l K e hl W d v => Lib.hid fun hB h => by
      rw [e]
      exact HC.out.sum l W d v hB h (by omega)
    have SA := Lib.hid (SUM A KA hKA (by omega))
    have SB := Lib.hid (SUM B KB hKB (by omega))
    have SC := Lib.hid (SUM Cc KC hKC (by omega))
    have SX := Lib.hid (SUM X KX hKX (by omega))
    have SN := Lib.hid (SUM [] 0 crc_nil.symm (by simp))
    have HA : Hid (∀ j, j < n → ∃ a b c, A[j]? = some a ∧ B[j]? = some b ∧ Cc[j]? = some c ∧ X[j]? = some ((a ^^^ b) ^^^ c)) := Lib.hid fun j hj => by
      obtain ⟨a, ha⟩ : ∃ a, A[j]? = some a := ⟨_, List.getElem?_eq_getElem (by omega)⟩
      obtain ⟨b, hb⟩ : ∃ b, B[j]? = some b := ⟨_, List.getElem?_eq_getElem (by omega)⟩
      obtain ⟨c, hc⟩ : ∃ c, Cc[j]? = some c := ⟨_, List.getElem?_eq_getElem (by omega)⟩
      exact ⟨a, b, c, ha, hb, hc, by rw [hX]; exact xorL_at (xorL_at ha hb) hc⟩
    have HX := Lib.hid lX
    have hmk := run_make_row' (P := Tryd.prog) 22 5 (.int .u8 0) 1 Tryd.underlying22 Tryd.cells22o rfl .i64 .i64 n (by omega) (by omega)
    clear hX hAB hKA hKB hKC hKX hKD SUM lX lA lB lC w0 w1 w2
    go_enter Tryd.func7, Tryd.ntmps7
    go_wp2_with fail
    refine (awake4_any HC.out _ (Below.refl _ _)).mono ?_
    rintro r w1 ⟨rfl, hB1⟩
    go_wp2
    have hz := made_zeros4 n
    obtain ⟨cs, hcs⟩ : ∃ cs, cs = madeCells #[Value.int .u8 0] n := ⟨_, rfl⟩
    have hb0 : Blk (w1.alloc (.cells (madeCells #[Value.int .u8 0] n) 5)) w1.heap.size 5 (((X.take 0 ++ List.replicate (n - 0) 0).map byteV).toArray) := by
      rw [List.take_zero, List.nil_append, Nat.sub_zero, ← hz]; exact Blk.new w1 _ _
    have hBm : Below w.heap.size w (w1.alloc (.cells (madeCells #[Value.int .u8 0] n) 5)) := hB1.alloc hB1.size _
    have hg0 := hB1.size
    clear hz hcs cs hmk
    go_loopw [10] (fun i wr => ∃ j : Nat, j ≤ n ∧ i = .int .i64 (j : Int) ∧ Blk wr w1.heap.size 5 (((X.take j ++ List.replicate (n - j) 0).map byteV).toArray) ∧ Below w.heap.size w wr) (fun i _ => n - (intOf i).toNat)
    case atStart => exact ⟨0, Nat.zero_le _, rfl, hb0, hBm⟩
    case round =>
      obtain ⟨j, hj, rfl, hblk, hBr⟩ := hrel
      by_cases hlt : j < n
      · obtain ⟨a, b, c, ha, hb, hc, hx⟩ := HA.out j hlt
        obtain ⟨oa, rfl, qa⟩ := (tA.below' hBr.drew).at4 ha
        obtain ⟨ob, rfl, qb⟩ := (tB.below' hBr.drew).at4 hb
        obtain ⟨oc, rfl, qc⟩ := (tC.below' hBr.drew).at4 hc
        have ga : da < w1.heap.size := Nat.lt_of_lt_of_le (tA.lt (by have := (List.getElem?_eq_some_iff.1 ha).1; omega)) hg0
        have gb : db < w1.heap.size := Nat.lt_of_lt_of_le (tB.lt (by have := (List.getElem?_eq_some_iff.1 hb).1; omega)) hg0
        have gc : dc < w1.heap.size := Nat.lt_of_lt_of_le (tC.lt (by have := (List.getElem?_eq_some_iff.1 hc).1; omega)) hg0
        have q0 : wr.drew.cell? ⟨da, oa + j, none⟩ = some (.int .u8 (a.toNat : Int)) := qa
        have q1 : wr.drew.cell? ⟨db, ob + j, none⟩ = some (.int .u8 (b.toNat : Int)) := qb
        have q2 : wr.drew.cell? ⟨dc, oc + j, none⟩ = some (.int .u8 (c.toNat : Int)) := qc
        obtain ⟨x, hxx⟩ : ∃ x, x = (a ^^^ b) ^^^ c := ⟨_, rfl⟩
        obtain ⟨y, hyy⟩ : ∃ y, y = a ^^^ b := ⟨_, rfl⟩
        have X1 : Hid (bits .xor .u8 (a.toNat : Int) (b.toNat : Int) = (y.toNat : Int)) := Lib.hid (by rw [hyy, u8_xor_nat _ _ a.toNat_lt b.toNat_lt, UInt8.toNat_xor])
        have X2 : Hid (bits .xor .u8 (y.toNat : Int) (c.toNat : Int) = (x.toNat : Int)) := Lib.hid (by rw [hxx, ← hyy, u8_xor_nat _ _ y.toNat_lt c.toNat_lt, UInt8.toNat_xor])
        rw [← hxx] at hx
        have hblk2 : Blk wr.drew w1.heap.size 5 (((X.take j ++ List.replicate (n - j) 0).map byteV).toArray) := hblk
        have hset := hblk2.set_ j (.int .u8 (x.toNat : Int))
        have hnew : Blk (wr.drew.setCell ⟨w1.heap.size, j, none⟩ (.int .u8 (x.toNat : Int))) w1.heap.size 5 (((X.take (j + 1) ++ List.replicate (n - (j + 1)) 0).map byteV).toArray) := by
          have e : (((X.take j ++ List.replicate (n - j) 0).map byteV).toArray).setIfInBounds j (.int .u8 (x.toNat : Int)) = (((X.take (j + 1) ++ List.replicate (n - (j + 1)) 0).map byteV).toArray) := by
            rw [← part_set X n j x HX.out hx, List.map_set, List.setIfInBounds_toArray]
            rfl
          rw [e] at hset
          exact hset
        have f0 : wr.drew.frozen? ⟨w1.heap.size, j, none⟩ = false := hblk2.frozen j
        have hold : ∃ u, wr.drew.cell? ⟨w1.heap.size, j, none⟩ = some u := by
          rw [hblk2.cell]
          refine ⟨_, Array.getElem?_eq_getElem ?_⟩
          have := HX.out
          simp only [List.size_toArray, List.length_map, List.length_append, List.length_take, List.length_replicate]
          omega
        obtain ⟨u0, hold⟩ := hold
        have hbs : Below w1.heap.size wr.drew (wr.drew.setCell ⟨w1.heap.size, j, none⟩ (.int .u8 (x.toNat : Int))) := (Below.refl _ _).setCell (p := ⟨w1.heap.size, j, none⟩) (Nat.le_refl _) _
        have hB' : Below w.heap.size w (wr.drew.setCell ⟨w1.heap.size, j, none⟩ (.int .u8 (x.toNat : Int))) := hBr.drew.trans (hbs.mono hg0)
        have i1 : (0 : Int) ≤ (j : Int) := by omega
        have i2 : (j : Int) < (n : Int) := by omega
        have i3 : (j : Int) < (len0 : Int) := by omega
        have i4 : (j : Int) < (len1 : Int) := by omega
        have i5 : (j : Int) < (len2 : Int) := by omega
        have HNEW := Lib.hid hnew
        have HBN := Lib.hid hB'
        have HBS := Lib.hid hbs
        clear ha hb hc hx qa qb qc hxx hyy hblk hblk2 hset hnew hB' hBr hbs
        go_wp2_with fail
        refine wp_region_noPanic ?_
        refine wp_region_held_drew (S := fun _ => True) (by kernel_rfl) trivial (fun hS => ?_)
        refine wpAnyH_take (i := 0) (oi := ?o1_0_1) (v := ?v1_0_1) ?i1_0_1 (by kernel_rfl) (by kernel_rfl) (by kernel_rfl) (fun _ _ _ h => h) (Or.inl ⟨?g1_0_1, ?y1_0_1⟩) hS ?_
        case i1_0_1 => simp only [List.getElem?_toArray, List.getElem?_cons_succ, List.getElem?_cons_zero]; rfl
        case g1_0_1 => rfl
        case y1_0_1 => (intro w hSw; (go_simp <;> with_reducible rfl))
        (try simp only [Act.put, List.setIfInBounds_toArray, List.set_cons_zero, List.set_cons_succ])
        refine wpAnyH_take (i := 1) (oi := ?o1_1_2) (v := ?v1_1_2) ?i1_1_2 (by kernel_rfl) (by kernel_rfl) (by kernel_rfl) (fun _ _ _ h => h) (Or.inl ⟨?g1_1_2, ?y1_1_2⟩) hS ?_
        case i1_1_2 => simp only [List.getElem?_toArray, List.getElem?_cons_succ, List.getElem?_cons_zero]; rfl
        case g1_1_2 => rfl
        case y1_1_2 => (intro w hSw; (go_simp <;> with_reducible rfl))
        (try simp only [Act.put, List.setIfInBounds_toArray, List.set_cons_zero, List.set_cons_succ])
        refine wpAnyH_take (i := 2) (oi := ?o1_2_3) (v := ?v1_2_3) ?i1_2_3 (by kernel_rfl) (by kernel_rfl) (by kernel_rfl) (fun _ _ _ h => h) (Or.inl ⟨?g1_2_3, ?y1_2_3⟩) hS ?_
        case i1_2_3 => simp only [List.getElem?_toArray, List.getElem?_cons_succ, List.getElem?_cons_zero]; rfl
        case g1_2_3 => rfl
        case y1_2_3 => (intro w hSw; (go_simp <;> with_reducible rfl))
        (try simp only [Act.put, List.setIfInBounds_toArray, List.set_cons_zero, List.set_cons_succ])
        refine wpAnyH_take (i := 3) (oi := ?o1_3_4) (v := ?v1_3_4) ?i1_3_4 (by kernel_rfl) (by kernel_rfl) (by kernel_rfl) (fun _ _ _ h => h) (Or.inl ⟨?g1_3_4, ?y1_3_4⟩) hS ?_
        case i1_3_4 => simp only [List.getElem?_toArray, List.getElem?_cons_succ, List.getElem?_cons_zero]; rfl
        case g1_3_4 => rfl
        case y1_3_4 => (intro w hSw; (go_simp <;> with_reducible rfl))
        (try simp only [Act.put, List.setIfInBounds_toArray, List.set_cons_zero, List.set_cons_succ])
        refine wpAnyH_take (i := 4) (oi := ?o1_4_5) (v := ?v1_4_5) ?i1_4_5 (by kernel_rfl) (by kernel_rfl) (by kernel_rfl) (fun _ _ _ h => h) (Or.inl ⟨?g1_4_5, ?y1_4_5⟩) hS ?_
        case i1_4_5 => simp only [List.getElem?_toArray, List.getElem?_cons_succ, List.getElem?_cons_zero]; rfl
        case g1_4_5 => rfl
        case y1_4_5 => (intro w hSw; (go_simp <;> with_reducible rfl))
        (try simp only [Act.put, List.setIfInBounds_toArray, List.set_cons_zero, List.set_cons_succ])
        refine held_more (S' := fun w' => w'.cell? ⟨da, oa + j, none⟩ = some (.int .u8 (a.toNat : Int)) ∧ w'.cell? ⟨db, ob + j, none⟩ = some (.int .u8 (b.toNat : Int)) ∧ w'.cell? ⟨dc, oc + j, none⟩ = some (.int .u8 (c.toNat : Int))) (fun _ _ => trivial) _ _ _ _ ?_
        replace hS := And.intro q0 (And.intro q1 q2)
        refine wpAnyH_take (i := 5) (oi := ?o1_5_6) (v := ?v1_5_6) ?i1_5_6 (by kernel_rfl) (by kernel_rfl) (by kernel_rfl) (fun _ _ _ h => h) (Or.inl ⟨?g1_5_6, ?y1_5_6⟩) hS ?_
        case i1_5_6 => simp only [List.getElem?_toArray, List.getElem?_cons_succ, List.getElem?_cons_zero]; rfl
        case g1_5_6 => rfl
        case y1_5_6 => (intro w hSw; have hc := hSw.1; (go_simp <;> with_reducible rfl))
        (try simp only [Act.put, List.setIfInBounds_toArray, List.set_cons_zero, List.set_cons_succ])
        refine wpAnyH_take (i := 6) (oi := ?o1_6_7) (v := ?v1_6_7) ?i1_6_7 (by kernel_rfl) (by kernel_rfl) (by kernel_rfl) (fun _ _ _ h => h) (Or.inl ⟨?g1_6_7, ?y1_6_7⟩) hS ?_
        case i1_6_7 => simp only [List.getElem?_toArray, List.getElem?_cons_succ, List.getElem?_cons_zero]; rfl
        case g1_6_7 => rfl
        case y1_6_7 => (intro w hSw; (go_simp <;> with_reducible rfl))
        (try simp only [Act.put, List.setIfInBounds_toArray, List.set_cons_zero, List.set_cons_succ])
        refine wpAnyH_take (i := 7) (oi := ?o1_7_8) (v := ?v1_7_8) ?i1_7_8 (by kernel_rfl) (by kernel_rfl) (by kernel_rfl) (fun _ _ _ h => h) (Or.inl ⟨?g1_7_8, ?y1_7_8⟩) hS ?_
        case i1_7_8 => simp only [List.getElem?_toArray, List.getElem?_cons_succ, List.getElem?_cons_zero]; rfl
        case g1_7_8 => rfl
        case y1_7_8 => (intro w hSw; (go_simp <;> with_reducible rfl))
        (try simp only [Act.put, List.setIfInBounds_toArray, List.set_cons_zero, List.set_cons_succ])
        refine wpAnyH_take (i := 8) (oi := ?o1_8_9) (v := ?v1_8_9) ?i1_8_9 (by kernel_rfl) (by kernel_rfl) (by kernel_rfl) (fun _ _ _ h => h) (Or.inl ⟨?g1_8_9, ?y1_8_9⟩) hS ?_
        case i1_8_9 => simp only [List.getElem?_toArray, List.getElem?_cons_succ, List.getElem?_cons_zero]; rfl
        case g1_8_9 => rfl
        case y1_8_9 => (intro w hSw; (go_simp <;> with_reducible rfl))
        (try simp only [Act.put, List.setIfInBounds_toArray, List.set_cons_zero, List.set_cons_succ])
        refine wpAnyH_take (i := 9) (oi := ?o1_9_10) (v := ?v1_9_10) ?i1_9_10 (by kernel_rfl) (by kernel_rfl) (by kernel_rfl) (fun _ _ _ h => h) (Or.inl ⟨?g1_9_10, ?y1_9_10⟩) hS ?_
        case i1_9_10 => simp only [List.getElem?_toArray, List.getElem?_cons_succ, List.getElem?_cons_zero]; rfl
        case g1_9_10 => rfl
        case y1_9_10 => (intro w hSw; have hc := hSw.2.1; (go_simp <;> with_reducible rfl))
        (try simp only [Act.put, List.setIfInBounds_toArray, List.set_cons_zero, List.set_cons_succ])
        refine wpAnyH_take (i := 10) (oi := ?o1_10_11) (v := ?v1_10_11) ?i1_10_11 (by kernel_rfl) (by kernel_rfl) (by kernel_rfl) (fun _ _ _ h => h) (Or.inl ⟨?g1_10_11, ?y1_10_11⟩) hS ?_
        case i1_10_11 => simp only [List.getElem?_toArray, List.getElem?_cons_succ, List.getElem?_cons_zero]; rfl
        case g1_10_11 => rfl
        case y1_10_11 => (intro w hSw; have hx := X1.out; (go_simp <;> with_reducible rfl))
        (try simp only [Act.put, List.setIfInBounds_toArray, List.set_cons_zero, List.set_cons_succ])
        refine wpAnyH_take (i := 11) (oi := ?o1_11_12) (v := ?v1_11_12) ?i1_11_12 (by kernel_rfl) (by kernel_rfl) (by kernel_rfl) (fun _ _ _ h => h) (Or.inl ⟨?g1_11_12, ?y1_11_12⟩) hS ?_
        case i1_11_12 => simp only [List.getElem?_toArray, List.getElem?_cons_succ, List.getElem?_cons_zero]; rfl
        case g1_11_12 => rfl
        case y1_11_12 => (intro w hSw; (go_simp <;> with_reducible rfl))
        (try simp only [Act.put, List.setIfInBounds_toArray, List.set_cons_zero, List.set_cons_succ])
        refine wpAnyH_take (i := 12) (oi := ?o1_12_13) (v := ?v1_12_13) ?i1_12_13 (by kernel_rfl) (by kernel_rfl) (by kernel_rfl) (fun _ _ _ h => h) (Or.inl ⟨?g1_12_13, ?y1_12_13⟩) hS ?_
        case i1_12_13 => simp only [List.getElem?_toArray, List.getElem?_cons_succ, List.getElem?_cons_zero]; rfl
        case g1_12_13 => rfl
        case y1_12_13 => (intro w hSw; (go_simp <;> with_reducible rfl))
        (try simp only [Act.put, List.setIfInBounds_toArray, List.set_cons_zero, List.set_cons_succ])
        refine wpAnyH_take (i := 13) (oi := ?o1_13_14) (v := ?v1_13_14) ?i1_13_14 (by kernel_rfl) (by kernel_rfl) (by kernel_rfl) (fun _ _ _ h => h) (Or.inl ⟨?g1_13_14, ?y1_13_14⟩) hS ?_
        case i1_13_14 => simp only [List.getElem?_toArray, List.getElem?_cons_succ, List.getElem?_cons_zero]; rfl
        case g1_13_14 => rfl
        case y1_13_14 => (intro w hSw; (go_simp <;> with_reducible rfl))
        (try simp only [Act.put, List.setIfInBounds_toArray, List.set_cons_zero, List.set_cons_succ])
        refine wpAnyH_take (i := 14) (oi := ?o1_14_15) (v := ?v1_14_15) ?i1_14_15 (by kernel_rfl) (by kernel_rfl) (by kernel_rfl) (fun _ _ _ h => h) (Or.inl ⟨?g1_14_15, ?y1_14_15⟩) hS ?_
        case i1_14_15 => simp only [List.getElem?_toArray, List.getElem?_cons_succ, List.getElem?_cons_zero]; rfl
        case g1_14_15 => rfl
        case y1_14_15 => (intro w hSw; have hc := hSw.2.2; (go_simp <;> with_reducible rfl))
        (try simp only [Act.put, List.setIfInBounds_toArray, List.set_cons_zero, List.set_cons_succ])
        refine wpAnyH_take (i := 15) (oi := ?o1_15_16) (v := ?v1_15_16) ?i1_15_16 (by kernel_rfl) (by kernel_rfl) (by kernel_rfl) (fun _ _ _ h => h) (Or.inl ⟨?g1_15_16, ?y1_15_16⟩) hS ?_
        case i1_15_16 => simp only [List.getElem?_toArray, List.getElem?_cons_succ, List.getElem?_cons_zero]; rfl
        case g1_15_16 => rfl
        case y1_15_16 => (intro w hSw; have hx := X2.out; (go_simp <;> with_reducible rfl))
        (try simp only [Act.put, List.setIfInBounds_toArray, List.set_cons_zero, List.set_cons_succ])
        refine wpAnyH_take (i := 16) (oi := ?o1_16_17) (v := ?v1_16_17) ?i1_16_17 (by kernel_rfl) (by kernel_rfl) (by kernel_rfl) (fun _ _ _ h => h) (Or.inl ⟨?g1_16_17, ?y1_16_17⟩) hS ?_
        case i1_16_17 => simp only [List.getElem?_toArray, List.getElem?_cons_succ, List.getElem?_cons_zero]; rfl
        case g1_16_17 => rfl
        case y1_16_17 => (intro w hSw; (go_simp <;> with_reducible rfl))
        (try simp only [Act.put, List.setIfInBounds_toArray, List.set_cons_zero, List.set_cons_succ])
        refine wpAnyH_ready (rs := [17]) (by kernel_rfl) (by simp) ?_
        refine (AllReadyH.cons (o := ?o1_18_17) ?i1_18_17 (fun K hK => ?st1_18_17) AllReadyH.nil)
        case i1_18_17 => simp only [List.getElem?_toArray, List.getElem?_cons_succ, List.getElem?_cons_zero]; rfl
        rw [if_pos (by rfl)]
        go_simp
        refine hK.out _ _ ?s1_18_17 (fun hS => ?_)
        case s1_18_17 => (exact ⟨(HBS.out.cell (p := ⟨da, oa + j, none⟩) ga).trans hS.1, (HBS.out.cell (p := ⟨db, ob + j, none⟩) gb).trans hS.2.1, (HBS.out.cell (p := ⟨dc, oc + j, none⟩) gc).trans hS.2.2⟩)
        clear hK K
        (try simp only [Act.put, List.setIfInBounds_toArray, List.set_cons_zero, List.set_cons_succ])
        refine wpAnyH_done (by kernel_rfl) ?_ _
        refine NoPanic.normal ?_
        clear hS q0 q1 q2 f0 hold
        go_wp2
        go_roundw
        case rel => exact ⟨j + 1, by omega, by go_num, HNEW.out, HBN.out⟩
        case measure => simp [intOf]; omega
      · have hjn : j = n := by omega
        subst hjn
        rw [part_done _ _ HX.out] at hblk
        have pX0 := Rd.of_blk hblk (by have := HX.out; omega)
        rw [HX.out] at pX0
        have hBd := hBr.drew
        have hs := hBr.size
        have pX := pX0.below' (Below.refl _ _).drew
        have pA := tA.below' hBd
        have pB := tB.below' hBd
        have pC := tC.below' hBd
        clear hb0 hBm hblk pX0 hBr tA tB tC hB1
        go_wp2_with fail
        refine wp_region_noPanic ?_
        refine wp_region_held_drew (S := fun _ => True) (by kernel_rfl) trivial (fun hS => ?_)
        refine wpAnyH_take (i := 0) (oi := ?o2_0_1) (v := ?v2_0_1) ?i2_0_1 (by kernel_rfl) (by kernel_rfl) (by kernel_rfl) (fun _ _ _ h => h) (Or.inl ⟨?g2_0_1, ?y2_0_1⟩) hS ?_
        case i2_0_1 => simp only [List.getElem?_toArray, List.getElem?_cons_succ, List.getElem?_cons_zero]; rfl
        case g2_0_1 => rfl
        case y2_0_1 => (intro w hSw; (go_simp <;> with_reducible rfl))
        (try simp only [Act.put, List.setIfInBounds_toArray, List.set_cons_zero, List.set_cons_succ])
        refine wpAnyH_take (i := 2) (oi := ?o2_2_2) (v := ?v2_2_2) ?i2_2_2 (by kernel_rfl) (by kernel_rfl) (by kernel_rfl) (fun _ _ _ h => h) (Or.inl ⟨?g2_2_2, ?y2_2_2⟩) hS ?_
        case i2_2_2 => simp only [List.getElem?_toArray, List.getElem?_cons_succ, List.getElem?_cons_zero]; rfl
        case g2_2_2 => rfl
        case y2_2_2 => (intro w hSw; (go_simp <;> with_reducible rfl))
        (try simp only [Act.put, List.setIfInBounds_toArray, List.set_cons_zero, List.set_cons_succ])
        refine wpAnyH_take (i := 3) (oi := ?o2_3_3) (v := ?v2_3_3) ?i2_3_3 (by kernel_rfl) (by kernel_rfl) (by kernel_rfl) (fun _ _ _ h => h) (Or.inl ⟨?g2_3_3, ?y2_3_3⟩) hS ?_
        case i2_3_3 => simp only [List.getElem?_toArray, List.getElem?_cons_succ, List.getElem?_cons_zero]; rfl
        case g2_3_3 => rfl
        case y2_3_3 => (intro w hSw; (go_simp <;> with_reducible rfl))
        (try simp only [Act.put, List.setIfInBounds_toArray, List.set_cons_zero, List.set_cons_succ])
        refine wpAnyH_take (i := 4) (oi := ?o2_4_4) (v := ?v2_4_4) ?i2_4_4 (by kernel_rfl) (by kernel_rfl) (by kernel_rfl) (fun _ _ _ h => h) (Or.inl ⟨?g2_4_4, ?y2_4_4⟩) hS ?_
        case i2_4_4 => simp only [List.getElem?_toArray, List.getElem?_cons_succ, List.getElem?_cons_zero]; rfl
        case g2_4_4 => rfl
        case y2_4_4 => (intro w hSw; (go_simp <;> with_reducible rfl))
        (try simp only [Act.put, List.setIfInBounds_toArray, List.set_cons_zero, List.set_cons_succ])
        refine wpAnyH_take (i := 6) (oi := ?o2_6_5) (v := ?v2_6_5) ?i2_6_5 (by kernel_rfl) (by kernel_rfl) (by kernel_rfl) (fun _ _ _ h => h) (Or.inl ⟨?g2_6_5, ?y2_6_5⟩) hS ?_
        case i2_6_5 => simp only [List.getElem?_toArray, List.getElem?_cons_succ, List.getElem?_cons_zero]; rfl
        case g2_6_5 => rfl
        case y2_6_5 => (intro w hSw; (go_simp <;> with_reducible rfl))
        (try simp only [Act.put, List.setIfInBounds_toArray, List.set_cons_zero, List.set_cons_succ])
        refine wpAnyH_take (i := 7) (oi := ?o2_7_6) (v := ?v2_7_6) ?i2_7_6 (by kernel_rfl) (by kernel_rfl) (by kernel_rfl) (fun _ _ _ h => h) (Or.inl ⟨?g2_7_6, ?y2_7_6⟩) hS ?_
        case i2_7_6 => simp only [List.getElem?_toArray, List.getElem?_cons_succ, List.getElem?_cons_zero]; rfl
        case g2_7_6 => rfl
        case y2_7_6 => (intro w hSw; (go_simp <;> with_reducible rfl))
        (try simp only [Act.put, List.setIfInBounds_toArray, List.set_cons_zero, List.set_cons_succ])
        refine wpAnyH_take (i := 8) (oi := ?o2_8_7) (v := ?v2_8_7) ?i2_8_7 (by kernel_rfl) (by kernel_rfl) (by kernel_rfl) (fun _ _ _ h => h) (Or.inl ⟨?g2_8_7, ?y2_8_7⟩) hS ?_
        case i2_8_7 => simp only [List.getElem?_toArray, List.getElem?_cons_succ, List.getElem?_cons_zero]; rfl
        case g2_8_7 => rfl
        case y2_8_7 => (intro w hSw; (go_simp <;> with_reducible rfl))
        (try simp only [Act.put, List.setIfInBounds_toArray, List.set_cons_zero, List.set_cons_succ])
        refine wpAnyH_take (i := 11) (oi := ?o2_11_8) (v := ?v2_11_8) ?i2_11_8 (by kernel_rfl) (by kernel_rfl) (by kernel_rfl) (fun _ _ _ h => h) (Or.inl ⟨?g2_11_8, ?y2_11_8⟩) hS ?_
        case i2_11_8 => simp only [List.getElem?_toArray, List.getElem?_cons_succ, List.getElem?_cons_zero]; rfl
        case g2_11_8 => rfl
        case y2_11_8 => (intro w hSw; (go_simp <;> with_reducible rfl))
        (try simp only [Act.put, List.setIfInBounds_toArray, List.set_cons_zero, List.set_cons_succ])
        refine wpAnyH_take (i := 12) (oi := ?o2_12_9) (v := ?v2_12_9) ?i2_12_9 (by kernel_rfl) (by kernel_rfl) (by kernel_rfl) (fun _ _ _ h => h) (Or.inl ⟨?g2_12_9, ?y2_12_9⟩) hS ?_
        case i2_12_9 => simp only [List.getElem?_toArray, List.getElem?_cons_succ, List.getElem?_cons_zero]; rfl
        case g2_12_9 => rfl
        case y2_12_9 => (intro w hSw; (go_simp <;> with_reducible rfl))
        (try simp only [Act.put, List.setIfInBounds_toArray, List.set_cons_zero, List.set_cons_succ])
        refine wpAnyH_take (i := 13) (oi := ?o2_13_10) (v := ?v2_13_10) ?i2_13_10 (by kernel_rfl) (by kernel_rfl) (by kernel_rfl) (fun _ _ _ h => h) (Or.inl ⟨?g2_13_10, ?y2_13_10⟩) hS ?_
        case i2_13_10 => simp only [List.getElem?_toArray, List.getElem?_cons_succ, List.getElem?_cons_zero]; rfl
        case g2_13_10 => rfl
        case y2_13_10 => (intro w hSw; (go_simp <;> with_reducible rfl))
        (try simp only [Act.put, List.setIfInBounds_toArray, List.set_cons_zero, List.set_cons_succ])
        refine wpAnyH_ready (rs := [1]) (by kernel_rfl) (by simp) ?_
        refine (AllReadyH.cons (o := ?o2_11_1) ?i2_11_1 (fun K hK => ?st2_11_1) AllReadyH.nil)
        case i2_11_1 => simp only [List.getElem?_toArray, List.getElem?_cons_succ, List.getElem?_cons_zero]; rfl
        rw [if_pos (by rfl)]
        go_simp
        refine ((SX.out _ _ _).out hBd pX).mono ?_
        rintro r w6 ⟨rfl, hb6⟩
        have a6 := pA.below' hb6
        have b6 := pB.below' hb6
        have c6 := pC.below' hb6
        have B6 := hBd.trans (hb6.mono hBd.size)
        go_wp2_with fail
        refine hK.out _ _ ?s2_11_1 (fun hS => ?_)
        case s2_11_1 => (exact hS)
        clear hK K
        (try simp only [Act.put, List.setIfInBounds_toArray, List.set_cons_zero, List.set_cons_succ])
        refine wpAnyH_ready (rs := [5]) (by kernel_rfl) (by simp) ?_
        refine (AllReadyH.cons (o := ?o2_12_5) ?i2_12_5 (fun K hK => ?st2_12_5) AllReadyH.nil)
        case i2_12_5 => simp only [List.getElem?_toArray, List.getElem?_cons_succ, List.getElem?_cons_zero]; rfl
        rw [if_pos (by rfl)]
        go_simp
        refine ((SA.out _ _ _).out B6 a6).mono ?_
        rintro r w7 ⟨rfl, hb7⟩
        have b7 := b6.below' hb7
        have c7 := c6.below' hb7
        have B7 := B6.trans (hb7.mono B6.size)
        go_wp2_with fail
        refine hK.out _ _ ?s2_12_5 (fun hS => ?_)
        case s2_12_5 => (exact hS)
        clear hK K
        (try simp only [Act.put, List.setIfInBounds_toArray, List.set_cons_zero, List.set_cons_succ])
        refine wpAnyH_ready (rs := [9]) (by kernel_rfl) (by simp) ?_
        refine (AllReadyH.cons (o := ?o2_13_9) ?i2_13_9 (fun K hK => ?st2_13_9) AllReadyH.nil)
        case i2_13_9 => simp only [List.getElem?_toArray, List.getElem?_cons_succ, List.getElem?_cons_zero]; rfl
        rw [if_pos (by rfl)]
        go_simp
        refine ((SB.out _ _ _).out B7 b7).mono ?_
        rintro r w8 ⟨rfl, hb8⟩
        have c8 := c7.below' hb8
        have B8 := B7.trans (hb8.mono B7.size)
        go_wp2_with fail
        refine hK.out _ _ ?s2_13_9 (fun hS => ?_)
        case s2_13_9 => (exact hS)
        clear hK K
        (try simp only [Act.put, List.setIfInBounds_toArray, List.set_cons_zero, List.set_cons_succ])
        refine wpAnyH_take (i := 10) (oi := ?o2_10_14) (v := ?v2_10_14) ?i2_10_14 (by kernel_rfl) (by kernel_rfl) (by kernel_rfl) (fun _ _ _ h => h) (Or.inl ⟨?g2_10_14, ?y2_10_14⟩) hS ?_
        case i2_10_14 => simp only [List.getElem?_toArray, List.getElem?_cons_succ, List.getElem?_cons_zero]; rfl
        case g2_10_14 => rfl
        case y2_10_14 => (intro w hSw; have hx := B1.out; (go_simp <;> with_reducible rfl))
        (try simp only [Act.put, List.setIfInBounds_toArray, List.set_cons_zero, List.set_cons_succ])
        refine wpAnyH_ready (rs := [14]) (by kernel_rfl) (by simp) ?_
        refine (AllReadyH.cons (o := ?o2_15_14) ?i2_15_14 (fun K hK => ?st2_15_14) AllReadyH.nil)
        case i2_15_14 => simp only [List.getElem?_toArray, List.getElem?_cons_succ, List.getElem?_cons_zero]; rfl
        rw [if_pos (by rfl)]
        go_simp
        refine ((SC.out _ _ _).out B8 c8).mono ?_
        rintro r w9 ⟨rfl, hb9⟩
        have B9 := B8.trans (hb9.mono B8.size)
        go_wp2_with fail
        refine hK.out _ _ ?s2_15_14 (fun hS => ?_)
        case s2_15_14 => (exact hS)
        clear hK K
        (try simp only [Act.put, List.setIfInBounds_toArray, List.set_cons_zero, List.set_cons_succ])
        refine wpAnyH_take (i := 15) (oi := ?o2_15_16) (v := ?v2_15_16) ?i2_15_16 (by kernel_rfl) (by kernel_rfl) (by kernel_rfl) (fun _ _ _ h => h) (Or.inl ⟨?g2_15_16, ?y2_15_16⟩) hS ?_
        case i2_15_16 => simp only [List.getElem?_toArray, List.getElem?_cons_succ, List.getElem?_cons_zero]; rfl
        case g2_15_16 => rfl
        case y2_15_16 => (intro w hSw; have hx := B2.out; (go_simp <;> with_reducible rfl))
        (try simp only [Act.put, List.setIfInBounds_toArray, List.set_cons_zero, List.set_cons_succ])
        refine wpAnyH_take (i := 16) (oi := ?o2_16_17) (v := ?v2_16_17) ?i2_16_17 (by kernel_rfl) (by kernel_rfl) (by kernel_rfl) (fun _ _ _ h => h) (Or.inl ⟨?g2_16_17, ?y2_16_17⟩) hS ?_
        case i2_16_17 => simp only [List.getElem?_toArray, List.getElem?_cons_succ, List.getElem?_cons_zero]; rfl
        case g2_16_17 => rfl
        case y2_16_17 => (intro w hSw; (go_simp <;> with_reducible rfl))
        (try simp only [Act.put, List.setIfInBounds_toArray, List.set_cons_zero, List.set_cons_succ])
        refine wpAnyH_take (i := 17) (oi := ?o2_17_18) (v := ?v2_17_18) ?i2_17_18 (by kernel_rfl) (by kernel_rfl) (by kernel_rfl) (fun _ _ _ h => h) (Or.inl ⟨?g2_17_18, ?y2_17_18⟩) hS ?_
        case i2_17_18 => simp only [List.getElem?_toArray, List.getElem?_cons_succ, List.getElem?_cons_zero]; rfl
        case g2_17_18 => rfl
        case y2_17_18 => (intro w hSw; (go_simp <;> with_reducible rfl))
        (try simp only [Act.put, List.setIfInBounds_toArray, List.set_cons_zero, List.set_cons_succ])
        refine wpAnyH_ready (rs := [18]) (by kernel_rfl) (by simp) ?_
        refine (AllReadyH.cons (o := ?o2_19_18) ?i2_19_18 (fun K hK => ?st2_19_18) AllReadyH.nil)
        case i2_19_18 => simp only [List.getElem?_toArray, List.getElem?_cons_succ, List.getElem?_cons_zero]; rfl
        rw [if_pos (by rfl)]
        go_simp
        refine ((SN.out _ _ _).out B9 (Rd.nil _ 0)).mono ?_
        rintro r w10 ⟨rfl, hb10⟩
        have B10 := B9.trans (hb10.mono B9.size)
        go_wp2_with fail
        refine hK.out _ _ ?s2_19_18 (fun hS => ?_)
        case s2_19_18 => (exact hS)
        clear hK K
        (try simp only [Act.put, List.setIfInBounds_toArray, List.set_cons_zero, List.set_cons_succ])
        refine wpAnyH_take (i := 19) (oi := ?o2_19_20) (v := ?v2_19_20) ?i2_19_20 (by kernel_rfl) (by kernel_rfl) (by kernel_rfl) (fun _ _ _ h => h) (Or.inl ⟨?g2_19_20, ?y2_19_20⟩) hS ?_
        case i2_19_20 => simp only [List.getElem?_toArray, List.getElem?_cons_succ, List.getElem?_cons_zero]; rfl
        case g2_19_20 => rfl
        case y2_19_20 => (intro w hSw; (go_simp <;> with_reducible rfl))
        (try simp only [Act.put, List.setIfInBounds_toArray, List.set_cons_zero, List.set_cons_succ])
        refine wpAnyH_take (i := 20) (oi := ?o2_20_21) (v := ?v2_20_21) ?i2_20_21 (by kernel_rfl) (by kernel_rfl) (by kernel_rfl) (fun _ _ _ h => h) (Or.inl ⟨?g2_20_21, ?y2_20_21⟩) hS ?_
        case i2_20_21 => simp only [List.getElem?_toArray, List.getElem?_cons_succ, List.getElem?_cons_zero]; rfl
        case g2_20_21 => rfl
        case y2_20_21 => (intro w hSw; (go_simp <;> with_reducible rfl))
        (try simp only [Act.put, List.setIfInBounds_toArray, List.set_cons_zero, List.set_cons_succ])
        refine wpAnyH_take (i := 21) (oi := ?o2_21_22) (v := ?v2_21_22) ?i2_21_22 (by kernel_rfl) (by kernel_rfl) (by kernel_rfl) (fun _ _ _ h => h) (Or.inl ⟨?g2_21_22, ?y2_21_22⟩) hS ?_
        case i2_21_22 => simp only [List.getElem?_toArray, List.getElem?_cons_succ, List.getElem?_cons_zero]; rfl
        case g2_21_22 => rfl
        case y2_21_22 => (intro w hSw; (go_simp <;> with_reducible rfl))
        (try simp only [Act.put, List.setIfInBounds_toArray, List.set_cons_zero, List.set_cons_succ])
        refine wpAnyH_done (by kernel_rfl) ?_ _
        refine NoPanic.normal ?_
        go_wp2
        go_ret
        exact ⟨rfl, B10⟩

end Go.Proofs.YtepcaaejadeklaaDoor
