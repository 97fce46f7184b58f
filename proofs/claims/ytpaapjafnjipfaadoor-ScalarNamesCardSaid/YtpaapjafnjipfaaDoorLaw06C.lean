/-
  ScalarNames, where package scalar answers as it is to and the law is awake.
-/
import Derived.Test.YtpaapjafnjipfaaDoorSclSpec
namespace Go.Proofs.YtpaapjafnjipfaaDoor
open Go.RowKit
set_option linter.unusedSimpArgs false

/-- What the law says of a sign. -/
theorem sign_ways (c : UInt8) : (nmB c = true ∧ ((97 ≤ (c.toNat : Int) ∧ (c.toNat : Int) ≤ 122) ∨ (¬ 97 ≤ (c.toNat : Int) ∧ 48 ≤ (c.toNat : Int) ∧ (c.toNat : Int) ≤ 57) ∨
      (¬ 97 ≤ (c.toNat : Int) ∧ ¬ 48 ≤ (c.toNat : Int) ∧ ((c.toNat : Int) == 45) = true))) ∨
    (nmB c = false ∧ ((c.toNat : Int) == 45) = false ∧ ((¬ 97 ≤ (c.toNat : Int) ∧ ¬ 48 ≤ (c.toNat : Int)) ∨ (¬ 97 ≤ (c.toNat : Int) ∧ 48 ≤ (c.toNat : Int) ∧ ¬ (c.toNat : Int) ≤ 57) ∨
      (97 ≤ (c.toNat : Int) ∧ ¬ (c.toNat : Int) ≤ 122 ∧ 48 ≤ (c.toNat : Int) ∧ ¬ (c.toNat : Int) ≤ 57))) := by
  rcases sm_cases c with ⟨h, h1, h2⟩ | ⟨h, g⟩
  · exact .inl ⟨sm_nm h, .inl ⟨h1, h2⟩⟩
  rcases nm_cases h with ⟨hn, q⟩ | ⟨hn, q1, q⟩
  · left
    refine ⟨hn, .inr ?_⟩
    rcases q with q | ⟨q, q2, q3⟩
    · right
      have q' : (c.toNat : Int) = 45 := by simpa using q
      exact ⟨by omega, by omega, q⟩
    · exact .inl ⟨by omega, by omega, by omega⟩
  · refine .inr ⟨hn, q1, ?_⟩
    rcases g with g | ⟨g, g'⟩ <;> rcases q with q | ⟨q, q'⟩
    · exact .inl ⟨by omega, by omega⟩
    · exact .inr (.inl ⟨by omega, by omega, by omega⟩)
    · omega
    · exact .inr (.inr ⟨by omega, by omega, by omega, by omega⟩)

set_option maxRecDepth 100000 in
set_option maxHeartbeats 2000000 in
theorem scalarNames_walk (s : List UInt8) (at_ : Nat) (hat : at_ < 256) (c : UInt8) (w : World) (C : SclC w) (HA : Awake6 w) :
    Calls Tryd.prog 6 #[.string (txt s), .int .u8 (at_ : Int), .int .u8 (c.toNat : Int)] w fun e w' => e = .returned (.bool true) ∧ Below w.heap.size w w' := by
  have hsz := txt_size s
  have HAW := Lib.hid (HA w (Below.refl _ _))
  by_cases h3 : 300 < s.length
  · have i0 : (300 : Int) < (s.length : Int) := by omega
    clear C HA
    go_enter Tryd.func6, Tryd.ntmps6
    go_wp2_with fail
    refine HAW.out.mono ?_
    rintro r w1 ⟨rfl, hB1⟩
    go_wp2
    go_ret
    exact ⟨rfl, hB1⟩
  have i0 : ¬ (300 : Int) < (s.length : Int) := by omega
  cases hid : identX s with
  | false =>
    have I1 : ∀ W, Below w.heap.size w W → Hid (Calls Tryd.prog 12 #[.string (txt s)] W (fun r w' => r = .returned (.bool false) ∧ Below W.heap.size W w')) := fun W h => Lib.hid (by rw [← hid]; exact C.ident s W (by omega) h)
    clear C HA hid
    go_enter Tryd.func6, Tryd.ntmps6
    go_wp2_with fail
    refine HAW.out.mono ?_
    rintro r w1 ⟨rfl, hB⟩
    have H1 := Lib.hid hB
    clear hB
    go_wp2_with fail
    refine (I1 _ H1.out).out.mono ?_
    rintro r w2 ⟨rfl, hB⟩
    have H2 := Lib.hid (H1.out.trans (hB.mono H1.out.size))
    clear hB
    go_wp2
    go_ret
    exact ⟨rfl, H2.out⟩
  | true =>
    obtain ⟨hl0, hl12⟩ := ident_len hid
    obtain ⟨n, hn⟩ : ∃ n, n = s.length := ⟨_, rfl⟩
    obtain ⟨k, hk⟩ : ∃ k, k = at_ % n := ⟨_, rfl⟩
    have hkn : k < n := by rw [hk]; exact Nat.mod_lt _ (by omega)
    have k1 : (at_ : Int) % (n : Int) = (k : Int) := by rw [hk]; rfl
    have k2 : (at_ : Int).tmod (n : Int) = (k : Int) := by rw [Int.tmod_eq_emod_of_nonneg (by omega)]; exact k1
    have hn0 : ((n : Int) == 0) = false := beq_eq_false_iff_ne.2 (by omega)
    have hfr : (txt s).extract 0 (k + 1) = txt (s.take (k + 1)) := by rw [txt_extract]; simp
    have hmo : txt s ++ txt [c] = txt (s ++ [c]) := txt_catS s [c]
    have hmi : (ByteArray.mk #[45]) ++ txt s = txt (45 :: s) := txt_catS [45] s
    have hse : (ByteArray.mk #[55]) ++ txt s = txt (55 :: s) := txt_catS [55] s
    have hbi : txt s ++ (ByteArray.mk #[65]) = txt (s ++ [65]) := txt_catS s [65]
    have hc1 : (txt [c]).size = 1 := txt_size [c]
    have hst : ∀ W : World, (convert 30 9 (.slice (some ⟨W.heap.size, 0, none⟩) 1 1)).run Tryd.prog (W.alloc (.cells #[.int .u8 (c.toNat : Int)] 5)) = .ok (.string (txt [c])) (W.alloc (.cells #[.int .u8 (c.toNat : Int)] 5)) := fun W => str_of (Rd.of_blk (l := [c]) (Blk.new W 5 _) (by simp))
    obtain ⟨b, hb, hb2⟩ : ∃ b, identX (s ++ [c]) = b ∧ ((nmB c = true ∧ ((b = true ∧ (n : Int) < 12) ∨ (b = false ∧ ¬ (n : Int) < 12))) ∨ (nmB c = false ∧ b = false)) := by
      rw [ident_more hid c]
      cases hc : nmB c with
      | false => exact ⟨_, rfl, .inr ⟨rfl, rfl⟩⟩
      | true =>
        by_cases h : s.length < 12
        · exact ⟨_, rfl, .inl ⟨rfl, .inl ⟨by simp [h], by omega⟩⟩⟩
        · exact ⟨_, rfl, .inl ⟨rfl, .inr ⟨by simp [h], by omega⟩⟩⟩
    have I0 : ∀ W, Below w.heap.size w W → Hid (Calls Tryd.prog 12 #[.string (txt s)] W (fun r w' => r = .returned (.bool true) ∧ Below W.heap.size W w')) := fun W h => Lib.hid (by rw [← hid]; exact C.ident s W (by omega) h)
    have I1 : ∀ W, Below w.heap.size w W → Hid (Calls Tryd.prog 12 #[.string (txt (s.take (k + 1)))] W (fun r w' => r = .returned (.bool true) ∧ Below W.heap.size W w')) := fun W h => Lib.hid (by have := C.ident (s.take (k + 1)) W (by rw [List.length_take]; omega) h; rwa [ident_front hid (by omega)] at this)
    have I2 : ∀ W, Below w.heap.size w W → Hid (Calls Tryd.prog 12 #[.string (txt (s ++ [c]))] W (fun r w' => r = .returned (.bool b) ∧ Below W.heap.size W w')) := fun W h => Lib.hid (by have := C.ident (s ++ [c]) W (by simp; omega) h; rwa [hb] at this)
    have I3 : ∀ W, Below w.heap.size w W → Hid (Calls Tryd.prog 12 #[.string (txt (45 :: s))] W (fun r w' => r = .returned (.bool false) ∧ Below W.heap.size W w')) := fun W h => Lib.hid (by have := C.ident (45 :: s) W (by simp; omega) h; rwa [ident_no (by decide)] at this)
    have I4 : ∀ W, Below w.heap.size w W → Hid (Calls Tryd.prog 12 #[.string (txt (55 :: s))] W (fun r w' => r = .returned (.bool false) ∧ Below W.heap.size W w')) := fun W h => Lib.hid (by have := C.ident (55 :: s) W (by simp; omega) h; rwa [ident_no (by decide)] at this)
    have I5 : ∀ W, Below w.heap.size w W → Hid (Calls Tryd.prog 12 #[.string (txt (s ++ [65]))] W (fun r w' => r = .returned (.bool false) ∧ Below W.heap.size W w')) := fun W h => Lib.hid (by have := C.ident (s ++ [65]) W (by simp; omega) h; rwa [ident_more hid, show nmB 65 = false from by decide, Bool.false_and] at this)
    rw [← hn] at hsz i0 hl12
    have i12 : (n : Int) ≤ 12 := by omega
    have HSW := Lib.hid (sign_ways c)
    have HB2 := Lib.hid hb2
    clear hb2
    have hc8 := UInt8.toNat_lt c
    clear C HA hid hk hn hb h3 hl0
    obtain ⟨m, hm⟩ : ∃ m, m = c.toNat := ⟨_, rfl⟩
    rw [← hm] at hst HSW hc8
    rw [← hm]
    clear hm
    go_enter Tryd.func6, Tryd.ntmps6
    go_wp2_with fail
    refine HAW.out.mono ?_
    rintro r w1 ⟨rfl, hB⟩
    have H1 := Lib.hid hB
    clear hB
    go_wp2_with fail
    refine (I0 _ H1.out).out.mono ?_
    rintro r w2 ⟨rfl, hB⟩
    have H2 := Lib.hid ((H1.out.trans (hB.mono H1.out.size)).alloc (H1.out.trans (hB.mono H1.out.size)).size (.cells #[.int .u8 (m : Int)] 5))
    clear hB
    have hst2 := hst w2
    clear hst
    have hsw := HSW.out
    have hb2 := HB2.out
    clear HSW HB2
    rcases hsw with ⟨hn, hq⟩ | ⟨hn, q0, hq⟩
    · have hb3 : (b = true ∧ (n : Int) < 12) ∨ (b = false ∧ 12 ≤ (n : Int)) := by
        rcases hb2 with ⟨_, h⟩ | ⟨h, _⟩
        · rcases h with ⟨h1, h2⟩ | ⟨h1, h2⟩
          · exact .inl ⟨h1, by omega⟩
          · exact .inr ⟨h1, by omega⟩
        · rw [hn] at h; cases h
      clear hb2
      rcases hb3 with ⟨rfl, g12⟩ | ⟨rfl, g12⟩
      all_goals
        rcases hq with ⟨q1, q2⟩ | ⟨q1, q2, q3⟩ | ⟨q1, q2, q3⟩
      all_goals
        go_wp2_with fail
        refine (I1 _ H2.out).out.mono ?_
        rintro r w3 ⟨rfl, hB⟩
        have H3 := Lib.hid (H2.out.trans (hB.mono H2.out.size))
        clear hB
        go_wp2_with fail
        refine (I2 _ H3.out).out.mono ?_
        rintro r w4 ⟨rfl, hB⟩
        have H4 := Lib.hid (H3.out.trans (hB.mono H3.out.size))
        clear hB
        go_wp2_with fail
        refine (I3 _ H4.out).out.mono ?_
        rintro r w5 ⟨rfl, hB⟩
        have H5 := Lib.hid (H4.out.trans (hB.mono H4.out.size))
        clear hB
        go_wp2_with fail
        refine (I4 _ H5.out).out.mono ?_
        rintro r w6 ⟨rfl, hB⟩
        have H6 := Lib.hid (H5.out.trans (hB.mono H5.out.size))
        clear hB
        go_wp2_with fail
        refine (I5 _ H6.out).out.mono ?_
        rintro r w7 ⟨rfl, hB⟩
        have H7 := Lib.hid (H6.out.trans (hB.mono H6.out.size))
        clear hB
        go_wp2
        go_ret
        exact ⟨by first | rfl | (simp <;> omega), H7.out⟩
    · rcases hb2 with ⟨hb2, -⟩ | ⟨-, rfl⟩
      · rw [hn] at hb2; cases hb2
      rcases hq with ⟨q1, q2⟩ | ⟨q1, q2, q3⟩ | ⟨q1, q2, q3, q4⟩
      all_goals
        go_wp2_with fail
        refine (I1 _ H2.out).out.mono ?_
        rintro r w3 ⟨rfl, hB⟩
        have H3 := Lib.hid (H2.out.trans (hB.mono H2.out.size))
        clear hB
        go_wp2_with fail
        refine (I2 _ H3.out).out.mono ?_
        rintro r w4 ⟨rfl, hB⟩
        have H4 := Lib.hid (H3.out.trans (hB.mono H3.out.size))
        clear hB
        go_wp2_with fail
        refine (I3 _ H4.out).out.mono ?_
        rintro r w5 ⟨rfl, hB⟩
        have H5 := Lib.hid (H4.out.trans (hB.mono H4.out.size))
        clear hB
        go_wp2_with fail
        refine (I4 _ H5.out).out.mono ?_
        rintro r w6 ⟨rfl, hB⟩
        have H6 := Lib.hid (H5.out.trans (hB.mono H5.out.size))
        clear hB
        go_wp2_with fail
        refine (I5 _ H6.out).out.mono ?_
        rintro r w7 ⟨rfl, hB⟩
        have H7 := Lib.hid (H6.out.trans (hB.mono H6.out.size))
        clear hB
        go_wp2
        go_ret
        exact ⟨by first | rfl | (simp <;> omega), H7.out⟩

end Go.Proofs.YtpaapjafnjipfaaDoor
