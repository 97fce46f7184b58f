/-
  The walk of the law TlvBack: it answers true, for all items (of at most 2^40 values), and writes nothing that was there, where package tlv answers as it is to (TlvC).
-/
import Derived.Test.YtdpaijechogmlaaLaw03C
namespace Go.Proofs.Ytdpaijechogmlaa
open Go.RowKit
set_option linter.unusedSimpArgs false

theorem Fo.drop_app (f g : Fo) : Fo.drop f.len (f.app g) = g := by
  induction f with
  | nil => rfl
  | cons t d k r _ ih => simp only [Fo.len, Fo.app, Fo.drop, ih]

theorem elemIt : Try.prog.underlying 22 = some (.slice (Try.prog.elem 22)) := by kernel_rfl
theorem sizeIt (W : World) : (sizeOf (Try.prog.elem 22)).run Try.prog W = .ok 3 W := by kernel_rfl

theorem slice_it {D : World → (Nat → Prop) → Value → List UInt8 → Prop} {w : World} {S : Nat → Prop} {A : Option Addr} {c : Nat} {f : Fo} {n : Nat} (h : FV D w S (.slice A n c) f) (lo : Nat) (h1 : lo ≤ n) :
    ∃ vs, (∀ W, (Instr.slice 22 (.slice A n c) (some (.int .i64 (lo : Int))) none none).run Try.prog W = .ok vs W) ∧ FV D w S vs (Fo.drop lo f) := by
  obtain ⟨A', c', he, h2, h3⟩ := h
  injection he with e1 e2 e3
  subst e1 e2 e3
  have hrun : ∀ W, (Instr.slice 22 (.slice A f.len c) (some (.int .i64 (lo : Int))) none none).run Try.prog W = .ok (sliced A lo f.len c 3) W := fun W => by
    rw [run_slice_l W 22 A f.len c elemIt .i64 (lo : Int) (by omega) (by omega), sizeIt]
    rfl
  refine ⟨_, hrun, ?_⟩
  unfold sliced
  have hl := Fo.len_drop lo f
  by_cases h0 : lo < f.len
  · obtain ⟨b, o, rfl, hS, hA⟩ := h3 (by omega)
    rw [if_neg (by omega)]
    refine ⟨_, _, by rw [hl], by omega, fun _ => ⟨b, o + lo * 3, ?_, hS, hA.drop lo⟩⟩
    simp only [Option.map_some, Addr.add]
    by_cases hz : lo * 3 = 0 <;> simp [hz]
  · by_cases hc : c = lo
    · rw [if_pos hc]
      exact ⟨_, _, by rw [hl], by omega, fun h => absurd h (by omega)⟩
    · rw [if_neg hc]
      exact ⟨_, _, by rw [hl], by omega, fun h => absurd h (by omega)⟩

/-- A byte less of what may be put. -/
theorem got_less {f : Fo} (h : f.ok = true) (hf : f.fit) (h0 : f.all ≠ []) : ∃ o, gotOf f.all.dropLast = (.nil, 10, o) ∧ o ≤ f.all.length := by
  obtain ⟨h1, h2⟩ := ok_right h
  have hd : f.all.dropLast.length = f.all.length - 1 := List.length_dropLast
  have hne : f ≠ .nil := fun e => h0 (by rw [e]; rfl)
  have hlen : 0 < f.all.length := List.length_pos_iff.2 h0
  have hg : (gotOf f.all.dropLast).2.1 = 10 := by
    unfold gotOf
    rw [if_neg (by omega), hd]
    exact gt_short f (f.all.length - 1) 1 0 hne (by omega) (by omega) hf h1
  have := got_nil (l := f.all.dropLast) (by rw [hg]; decide)
  exact ⟨(gotOf f.all.dropLast).2.2, Prod.ext this.1 (Prod.ext hg rfl), by omega⟩

theorem Rd.shape3 {w : World} {d : Nat} {v : Value} {l : List UInt8} (h : Rd w d v l) : ∃ A c, v = .slice A l.length c := by
  obtain ⟨A, c, e, _⟩ := h
  exact ⟨A, c, e⟩

set_option maxRecDepth 100000 in
set_option maxHeartbeats 16000000 in
theorem tlvBack_walk (C : TlvC) (f g : Fo) (v u : Value) (w : World) (hF : FV DataI w (Lo w) v f) (hG : FV DataI w (Lo w) u g) (hf40 : f.sz ≤ 1099511627776) (hg40 : g.sz ≤ 1099511627776) :
    Calls Try.prog 5 #[v, u] w fun e w' => e = .returned (.bool true) ∧ Below w.heap.size w w' := by
  have HC := Lib.hid C
  have HFITF := Lib.hid hF.fit
  have HFITG := Lib.hid hG.fit
  clear C
  by_cases h1 : 200 < f.wt
  · have hd1 : decide ((200 : Int) < (f.wt : Int)) = true := decide_eq_true (by omega)
    clear h1
    go_enter Try.func5, Try.ntmps5
    go_wp2_with fail
    refine (awake3_any HC.out _).mono ?_
    rintro r w1 ⟨rfl, hB1⟩
    have hF1 := FV.below stays_I hF hB1
    have hG1 := FV.below stays_I hG hB1
    go_wp2_with fail
    refine (many_any f _ _ hF1 hf40).mono ?_
    rintro r w2 ⟨rfl, hb2⟩
    have hF2 := FV.below stays_I hF1 hb2
    have hG2 := FV.below stays_I hG1 hb2
    have hB2 := hB1.trans (hb2.mono hB1.size)
    clear hF hG hF1 hG1 hB1 hb2
    go_wp2
    go_ret
    exact ⟨rfl, hB2⟩
  · have hd1 : decide ((200 : Int) < (f.wt : Int)) = false := decide_eq_false (by omega)
    by_cases h2 : 200 < g.wt
    · have hd2 : decide ((200 : Int) < (g.wt : Int)) = true := decide_eq_true (by omega)
      clear h2
      go_enter Try.func5, Try.ntmps5
      go_wp2_with fail
      refine (awake3_any HC.out _).mono ?_
      rintro r w1 ⟨rfl, hB1⟩
      have hF1 := FV.below stays_I hF hB1
      have hG1 := FV.below stays_I hG hB1
      go_wp2_with fail
      refine (many_any f _ _ hF1 hf40).mono ?_
      rintro r w2 ⟨rfl, hb2⟩
      have hF2 := FV.below stays_I hF1 hb2
      have hG2 := FV.below stays_I hG1 hb2
      have hB2 := hB1.trans (hb2.mono hB1.size)
      clear hF hG hF1 hG1 hB1 hb2
      go_wp2_with fail
      refine (many_any g _ _ hG2 hg40).mono ?_
      rintro r w3 ⟨rfl, hb3⟩
      have hF3 := FV.below stays_I hF2 hb3
      have hG3 := FV.below stays_I hG2 hb3
      have hB3 := hB2.trans (hb3.mono hB2.size)
      clear hF2 hG2 hB2 hb3
      go_wp2
      go_ret
      exact ⟨rfl, hB3⟩
    · have hd2 : decide ((200 : Int) < (g.wt : Int)) = false := decide_eq_false (by omega)
      have hfw200 : f.wt ≤ 200 := by omega
      have hgw200 : g.wt ≤ 200 := by omega
      clear h2 h1
      cases hokf : f.ok with
      | false =>
        have HOKF : Hid (¬ f.ok = true) := Lib.hid (by rw [hokf]; decide)
        clear hokf
        cases hokg : g.ok with
        | false =>
          have HOKG : Hid (¬ g.ok = true) := Lib.hid (by rw [hokg]; decide)
          clear hokg
          go_enter Try.func5, Try.ntmps5
          go_wp2_with fail
          refine (awake3_any HC.out _).mono ?_
          rintro r w1 ⟨rfl, hB1⟩
          have hF1 := FV.below stays_I hF hB1
          have hG1 := FV.below stays_I hG hB1
          go_wp2_with fail
          refine (many_any f _ _ hF1 hf40).mono ?_
          rintro r w2 ⟨rfl, hb2⟩
          have hF2 := FV.below stays_I hF1 hb2
          have hG2 := FV.below stays_I hG1 hb2
          have hB2 := hB1.trans (hb2.mono hB1.size)
          clear hF hG hF1 hG1 hB1 hb2
          go_wp2_with fail
          refine (many_any g _ _ hG2 hg40).mono ?_
          rintro r w3 ⟨rfl, hb3⟩
          have hF3 := FV.below stays_I hF2 hb3
          have hG3 := FV.below stays_I hG2 hb3
          have hB3 := hB2.trans (hb3.mono hB2.size)
          clear hF2 hG2 hB2 hb3
          go_wp2_with fail
          refine (HC.out.put f _ _ hF3 hf40).mono ?_
          rintro r w4 ⟨vb, rfl, hvb4, hb4⟩
          rw [if_neg HOKF.out] at hvb4
          rw [if_neg HOKF.out]
          have HLT : Hid (∀ k, vb.ownBlock = some k → k < w4.heap.size) := Lib.hid (fun k hk => (World.ownsRow.lt hvb4 k hk).2)
          have hGb := hG3
          have hF4 := FV.below stays_I hF3 hb4
          have hG4 := FV.below stays_I hG3 hb4
          have hB4 := hB3.trans (hb4.mono hB3.size)
          have z3 := hB3.size
          have s4 := hb4.size
          clear hF3 hG3 hB3
          go_wp2_with fail
          refine (HC.out.put g _ _ hG4 hg40).mono ?_
          rintro r w5 ⟨vc, rfl, hvc5, hb5⟩
          rw [if_neg HOKG.out] at hvc5
          rw [if_neg HOKG.out]
          have hF5 := FV.below stays_I hF4 hb5
          have hG5 := FV.below stays_I hG4 hb5
          have hvb5 := hvb4.below hb5
          have hB5 := hB4.trans (hb5.mono hB4.size)
          have z4 := hB4.size
          have s5 := hb5.size
          have q5 := hb4.trans (hb5.mono s4)
          clear hF4 hG4 hvb4 hB4 hb5 hb4
          go_wp2
          go_ret
          exact ⟨rfl, hB5⟩
        | true =>
          have HOKG : Hid (g.ok = true) := Lib.hid hokg
          clear hokg
          go_enter Try.func5, Try.ntmps5
          go_wp2_with fail
          refine (awake3_any HC.out _).mono ?_
          rintro r w1 ⟨rfl, hB1⟩
          have hF1 := FV.below stays_I hF hB1
          have hG1 := FV.below stays_I hG hB1
          go_wp2_with fail
          refine (many_any f _ _ hF1 hf40).mono ?_
          rintro r w2 ⟨rfl, hb2⟩
          have hF2 := FV.below stays_I hF1 hb2
          have hG2 := FV.below stays_I hG1 hb2
          have hB2 := hB1.trans (hb2.mono hB1.size)
          clear hF hG hF1 hG1 hB1 hb2
          go_wp2_with fail
          refine (many_any g _ _ hG2 hg40).mono ?_
          rintro r w3 ⟨rfl, hb3⟩
          have hF3 := FV.below stays_I hF2 hb3
          have hG3 := FV.below stays_I hG2 hb3
          have hB3 := hB2.trans (hb3.mono hB2.size)
          clear hF2 hG2 hB2 hb3
          go_wp2_with fail
          refine (HC.out.put f _ _ hF3 hf40).mono ?_
          rintro r w4 ⟨vb, rfl, hvb4, hb4⟩
          rw [if_neg HOKF.out] at hvb4
          rw [if_neg HOKF.out]
          have HLT : Hid (∀ k, vb.ownBlock = some k → k < w4.heap.size) := Lib.hid (fun k hk => (World.ownsRow.lt hvb4 k hk).2)
          have hGb := hG3
          have hF4 := FV.below stays_I hF3 hb4
          have hG4 := FV.below stays_I hG3 hb4
          have hB4 := hB3.trans (hb4.mono hB3.size)
          have z3 := hB3.size
          have s4 := hb4.size
          clear hF3 hG3 hB3
          go_wp2_with fail
          refine (HC.out.put g _ _ hG4 hg40).mono ?_
          rintro r w5 ⟨vc, rfl, hvc5, hb5⟩
          rw [if_pos HOKG.out] at hvc5
          rw [if_pos HOKG.out]
          have hF5 := FV.below stays_I hF4 hb5
          have hG5 := FV.below stays_I hG4 hb5
          have hvb5 := hvb4.below hb5
          have hB5 := hB4.trans (hb5.mono hB4.size)
          have z4 := hB4.size
          have s5 := hb5.size
          have q5 := hb4.trans (hb5.mono s4)
          clear hF4 hG4 hvb4 hB4 hb5 hb4
          go_wp2
          go_ret
          exact ⟨rfl, hB5⟩
      | true =>
        have HOKF : Hid (f.ok = true) := Lib.hid hokf
        clear hokf
        cases hokg : g.ok with
        | false =>
          have HOKG : Hid (¬ g.ok = true) := Lib.hid (by rw [hokg]; decide)
          clear hokg
          go_enter Try.func5, Try.ntmps5
          go_wp2_with fail
          refine (awake3_any HC.out _).mono ?_
          rintro r w1 ⟨rfl, hB1⟩
          have hF1 := FV.below stays_I hF hB1
          have hG1 := FV.below stays_I hG hB1
          go_wp2_with fail
          refine (many_any f _ _ hF1 hf40).mono ?_
          rintro r w2 ⟨rfl, hb2⟩
          have hF2 := FV.below stays_I hF1 hb2
          have hG2 := FV.below stays_I hG1 hb2
          have hB2 := hB1.trans (hb2.mono hB1.size)
          clear hF hG hF1 hG1 hB1 hb2
          go_wp2_with fail
          refine (many_any g _ _ hG2 hg40).mono ?_
          rintro r w3 ⟨rfl, hb3⟩
          have hF3 := FV.below stays_I hF2 hb3
          have hG3 := FV.below stays_I hG2 hb3
          have hB3 := hB2.trans (hb3.mono hB2.size)
          clear hF2 hG2 hB2 hb3
          go_wp2_with fail
          refine (HC.out.put f _ _ hF3 hf40).mono ?_
          rintro r w4 ⟨vb, rfl, hvb4, hb4⟩
          rw [if_pos HOKF.out] at hvb4
          rw [if_pos HOKF.out]
          have HLT : Hid (∀ k, vb.ownBlock = some k → k < w4.heap.size) := Lib.hid (fun k hk => (World.ownsRow.lt hvb4 k hk).2)
          have hGb := hG3
          have hF4 := FV.below stays_I hF3 hb4
          have hG4 := FV.below stays_I hG3 hb4
          have hB4 := hB3.trans (hb4.mono hB3.size)
          have z3 := hB3.size
          have s4 := hb4.size
          clear hF3 hG3 hB3
          go_wp2_with fail
          refine (HC.out.put g _ _ hG4 hg40).mono ?_
          rintro r w5 ⟨vc, rfl, hvc5, hb5⟩
          rw [if_neg HOKG.out] at hvc5
          rw [if_neg HOKG.out]
          have hF5 := FV.below stays_I hF4 hb5
          have hG5 := FV.below stays_I hG4 hb5
          have hvb5 := hvb4.below hb5
          have hB5 := hB4.trans (hb5.mono hB4.size)
          have z4 := hB4.size
          have s5 := hb5.size
          have q5 := hb4.trans (hb5.mono s4)
          clear hF4 hG4 hvb4 hB4 hb5 hb4
          go_wp2
          go_ret
          exact ⟨rfl, hB5⟩
        | true =>
          have HOKG : Hid (g.ok = true) := Lib.hid hokg
          have hfl := (ok_right HOKF.out).2
          have hgl := (ok_right hokg).2
          have HGOTF := Lib.hid (got_all HOKF.out HFITF.out)
          clear hokg
          go_enter Try.func5, Try.ntmps5
          go_wp2_with fail
          refine (awake3_any HC.out _).mono ?_
          rintro r w1 ⟨rfl, hB1⟩
          have hF1 := FV.below stays_I hF hB1
          have hG1 := FV.below stays_I hG hB1
          go_wp2_with fail
          refine (many_any f _ _ hF1 hf40).mono ?_
          rintro r w2 ⟨rfl, hb2⟩
          have hF2 := FV.below stays_I hF1 hb2
          have hG2 := FV.below stays_I hG1 hb2
          have hB2 := hB1.trans (hb2.mono hB1.size)
          clear hF hG hF1 hG1 hB1 hb2
          go_wp2_with fail
          refine (many_any g _ _ hG2 hg40).mono ?_
          rintro r w3 ⟨rfl, hb3⟩
          have hF3 := FV.below stays_I hF2 hb3
          have hG3 := FV.below stays_I hG2 hb3
          have hB3 := hB2.trans (hb3.mono hB2.size)
          clear hF2 hG2 hB2 hb3
          go_wp2_with fail
          refine (HC.out.put f _ _ hF3 hf40).mono ?_
          rintro r w4 ⟨vb, rfl, hvb4, hb4⟩
          rw [if_pos HOKF.out] at hvb4
          rw [if_pos HOKF.out]
          have HLT : Hid (∀ k, vb.ownBlock = some k → k < w4.heap.size) := Lib.hid (fun k hk => (World.ownsRow.lt hvb4 k hk).2)
          have hGb := hG3
          have hF4 := FV.below stays_I hF3 hb4
          have hG4 := FV.below stays_I hG3 hb4
          have hB4 := hB3.trans (hb4.mono hB3.size)
          have z3 := hB3.size
          have s4 := hb4.size
          clear hF3 hG3 hB3
          go_wp2_with fail
          refine (HC.out.put g _ _ hG4 hg40).mono ?_
          rintro r w5 ⟨vc, rfl, hvc5, hb5⟩
          rw [if_pos HOKG.out] at hvc5
          rw [if_pos HOKG.out]
          have hF5 := FV.below stays_I hF4 hb5
          have hG5 := FV.below stays_I hG4 hb5
          have hvb5 := hvb4.below hb5
          have hB5 := hB4.trans (hb5.mono hB4.size)
          have z4 := hB4.size
          have s5 := hb5.size
          have q5 := hb4.trans (hb5.mono s4)
          clear hF4 hG4 hvb4 hB4 hb5 hb4
          obtain ⟨db, hdbb, hdb, hrb5⟩ := hvb5.rd (by omega)
          obtain ⟨Ab, cb, rfl⟩ := hrb5.shape3
          obtain ⟨dc, hdcb, -, hrc5⟩ := hvc5.rd (by omega)
          obtain ⟨Ac, cc, rfl⟩ := hrc5.shape3
          obtain ⟨Av, cv, rfl⟩ := hF5.shape
          obtain ⟨Au, cu, rfl⟩ := hG5.shape
          go_wp2_with fail
          refine (get3_at HC.out f.all _ _ _ _ hrb5 (by omega) HGOTF.out).mono ?_
          rintro r w6 ⟨vx, rfl, hx6, hb6⟩
          have hF6 := FV.below stays_I hF5 hb6
          have hG6 := FV.below stays_I hG5 hb6
          have hX6 := FV.lo stays_I hx6
          have hvb6 := hvb5.below hb6
          have hrc6 := hrc5.below' hb6
          have hB6 := hB5.trans (hb6.mono hB5.size)
          have z5 := hB5.size
          have s6 := hb6.size
          have q6 := q5.trans (hb6.mono (by omega))
          clear hF5 hG5 hvb5 hrb5 hrc5 hvc5 hB5 hb6 hx6 hdb hdbb
          go_wp2_with fail
          refine (plain_any f _ _ hX6 hf40).mono ?_
          rintro r w7 ⟨vp, rfl, hp7, hb7⟩
          have hF7 := FV.below stays_I hF6 hb7
          have hG7 := FV.below stays_I hG6 hb7
          have hP7 := FV.lo stays_R hp7
          have hvb7 := hvb6.below hb7
          have hrc7 := hrc6.below' hb7
          have hB7 := hB6.trans (hb7.mono hB6.size)
          have s7 := hb7.size
          have q7 := q6.trans (hb7.mono (by omega))
          clear hF6 hG6 hvb6 hrc6 hB6 hb7 hp7 hX6
          go_wp2_with fail
          refine (plain_any f _ _ hF7 hf40).mono ?_
          rintro r w8 ⟨vq, rfl, hq8, hb8⟩
          have hF8 := FV.below stays_I hF7 hb8
          have hG8 := FV.below stays_I hG7 hb8
          have hP8 := FV.below stays_R hP7 hb8
          have hQ8 := FV.lo stays_R hq8
          have hvb8 := hvb7.below hb8
          have hrc8 := hrc7.below' hb8
          have hB8 := hB7.trans (hb8.mono hB7.size)
          have s8 := hb8.size
          have q8 := q7.trans (hb8.mono (by omega))
          clear hF7 hG7 hvb7 hrc7 hB7 hb8 hq8 hP7
          go_wp2_with fail
          refine (same_any f f _ _ _ hP8 hQ8 hf40).mono ?_
          rintro r w9 ⟨rfl, hb9⟩
          rw [decide_eq_true rfl]
          have hF9 := FV.below stays_I hF8 hb9
          have hG9 := FV.below stays_I hG8 hb9
          have hvb9 := hvb8.below hb9
          have hrc9 := hrc8.below' hb9
          have hB9 := hB8.trans (hb9.mono hB8.size)
          have s9 := hb9.size
          have q9 := q8.trans (hb9.mono (by omega))
          clear hF8 hG8 hvb8 hrc8 hB8 hb9 hP8 hQ8
          go_wp2_with fail
          refine (HC.out.size f _ _ hF9 hf40 (by omega)).mono ?_
          rintro r w10 ⟨rfl, hb10⟩
          have hG10 := FV.below stays_I hG9 hb10
          have hvb10 := hvb9.below hb10
          have hrc10 := hrc9.below' hb10
          have hB10 := hB9.trans (hb10.mono hB9.size)
          have z10 := hB10.size
          have s10 := hb10.size
          have q10 := q9.trans (hb10.mono (by omega))
          clear hF9 hG9 hvb9 hrc9 hB9 hb10
          by_cases hsum : f.all.length + g.all.length ≤ 8192
          · have hsd : decide ((f.all.length : Int) + (g.all.length : Int) ≤ 8192) = true := decide_eq_true (by omega)
            have hokA : (f.app g).ok = true := by
              unfold Fo.ok
              rw [Fo.right_app, (ok_right HOKF.out).1, (ok_right HOKG.out).1, Fo.all_app, List.length_append, decide_eq_true hsum]
              rfl
            have HGA := Lib.hid (got_all hokA ((Fo.fit_app f g).2 ⟨HFITF.out, HFITG.out⟩))
            clear hsum hokA
            go_wp2_with (at_builtin; refine wpList_append_rd rfl (.tmp 79) (.tmp 80) rfl rfl w3.heap.size _ f.all rfl hvb10 _ _ g.all rfl hrc10 ?h1 ?h2 ?_)
            case h1 => omega
            case h2 => exact (by omega)
            intro v11 w11 hap
            have hb11 := hap.below hvb10 (by omega)
            have hap_rc := hrc10.heap' (fun hlt => hap.2.1.block dc hlt (fun e => by have := HLT.out dc e.symm; omega))
            have hap_g := FV.below stays_I hGb (q10.trans hb11)
            have hown11 : Own w11 w3.heap.size v11 (f.app g).all := by rw [Fo.all_app]; exact hap.1
            have hlA : (f.app g).all.length ≤ 100000 := by rw [Fo.all_app, List.length_append]; omega
            obtain ⟨d11, -, -, hr11⟩ := hown11.rd (by omega)
            have hB11 := hB10.trans (hb11.mono (by omega))
            have hrc11 := hap_rc
            have hG11 := hap_g
            clear hap hb11 hown11 hvb10 hrc10 hB10 hG10
            go_wp2_with fail
            refine (get3_at HC.out (f.app g).all _ _ _ _ hr11 hlA HGA.out).mono ?_
            rintro r w12 ⟨vy, rfl, hy12, hb12⟩
            have hY := FV.lo stays_I hy12
            obtain ⟨Ay, cy, rfl⟩ := hY.shape
            obtain ⟨n, hn⟩ : ∃ n, n = (f.app g).len := ⟨_, rfl⟩
            rw [← hn] at hY ⊢
            rw [Fo.len_app] at hn
            obtain ⟨vs2, hsl2, hvs12⟩ := slice_it hY f.len (by omega)
            rw [Fo.drop_app] at hvs12
            have hfw := f.len_le_wt
            have hgw := g.len_le_wt
            have hf300 : f.len ≤ 200 := by omega
            have hg300 : g.len ≤ 200 := by omega
            have hn400 : n ≤ 400 := by omega
            have hfn : f.len ≤ n := by omega
            have hnb1 : ((n : Int) == (f.len : Int) + (g.len : Int)) = true := by
              have : (n : Int) = (f.len : Int) + (g.len : Int) := by omega
              rw [this]; simp
            have hnb2 : ((n : Int) != (f.len : Int) + (g.len : Int)) = false := by unfold bne; rw [hnb1]; rfl
            have hrc12 := hrc11.below' hb12
            have hG12 := FV.below stays_I hG11 hb12
            have hB12 := hB11.trans (hb12.mono hB11.size)
            clear hr11 hrc11 hG11 hB11 hb12 hy12 hY hlA hn hfw hgw hap_rc hap_g
            go_wp2_with fail
            refine (plain_any g _ _ hvs12 hg40).mono ?_
            rintro r w13 ⟨vp2, rfl, hp13, hb13⟩
            have hG13 := FV.below stays_I hG12 hb13
            have hP13 := FV.lo stays_R hp13
            have hrc13 := hrc12.below' hb13
            have hB13 := hB12.trans (hb13.mono hB12.size)
            clear hvs12 hG12 hrc12 hB12 hb13 hp13
            go_wp2_with fail
            refine (plain_any g _ _ hG13 hg40).mono ?_
            rintro r w14 ⟨vq2, rfl, hq14, hb14⟩
            have hP14 := FV.below stays_R hP13 hb14
            have hQ14 := FV.lo stays_R hq14
            have hrc14 := hrc13.below' hb14
            have hB14 := hB13.trans (hb14.mono hB13.size)
            clear hG13 hP13 hrc13 hB13 hb14 hq14
            go_wp2_with fail
            refine (same_any g g _ _ _ hP14 hQ14 hg40).mono ?_
            rintro r w15 ⟨rfl, hb15⟩
            rw [decide_eq_true rfl]
            have hrc := hrc14.below' hb15
            have hBt := hB14.trans (hb15.mono hB14.size)
            clear hP14 hQ14 hrc14 hB14 hb15
            by_cases hc0 : g.all.length = 0
            · have hzb : ((g.all.length : Int) == 0) = true := by rw [hc0]; rfl
              have HB := Lib.hid hBt
              clear hBt hrc hc0
              go_wp2
              go_ret
              exact ⟨rfl, HB.out⟩
            · have hzb : ((g.all.length : Int) == 0) = false := beq_eq_false_iff_ne.2 (by omega)
              obtain ⟨o, hgo, ho⟩ := got_less HOKG.out HFITG.out (fun h => hc0 (by rw [h]; rfl))
              obtain ⟨q, hq⟩ : ∃ q, q = g.all.length - 1 := ⟨_, rfl⟩
              obtain ⟨vs, hsl, hrs⟩ := slice_to hrc q ((g.all.length : Int) - 1) (by omega) (by omega)
              have hgs : g.all.take q = g.all.dropLast := by rw [List.dropLast_eq_take, hq]
              rw [hgs] at hrs
              have hdl : g.all.dropLast.length ≤ 100000 := by rw [List.length_dropLast]; omega
              have HGET := Lib.hid (get3_at HC.out _ _ _ _ _ hrs hdl hgo)
              have hob : decide (o ≤ g.all.length) = true := decide_eq_true ho
              clear hgs hrs hrc hq hgo ho hc0 hdl
              go_wp2_with fail
              refine HGET.out.mono ?_
              rintro r wz ⟨vz, rfl, -, hbz⟩
              have HB := Lib.hid (hBt.trans (hbz.mono hBt.size))
              clear hBt hbz
              go_wp2
              go_ret
              exact ⟨rfl, HB.out⟩

          · have hsd : decide ((f.all.length : Int) + (g.all.length : Int) ≤ 8192) = false := decide_eq_false (by omega)
            have hBt := hB10
            have hrc := hrc10
            clear hB10 hrc10 hG10 hvb10 hsum
            by_cases hc0 : g.all.length = 0
            · have hzb : ((g.all.length : Int) == 0) = true := by rw [hc0]; rfl
              have HB := Lib.hid hBt
              clear hBt hrc hc0
              go_wp2
              go_ret
              exact ⟨rfl, HB.out⟩
            · have hzb : ((g.all.length : Int) == 0) = false := beq_eq_false_iff_ne.2 (by omega)
              obtain ⟨o, hgo, ho⟩ := got_less HOKG.out HFITG.out (fun h => hc0 (by rw [h]; rfl))
              obtain ⟨q, hq⟩ : ∃ q, q = g.all.length - 1 := ⟨_, rfl⟩
              obtain ⟨vs, hsl, hrs⟩ := slice_to hrc q ((g.all.length : Int) - 1) (by omega) (by omega)
              have hgs : g.all.take q = g.all.dropLast := by rw [List.dropLast_eq_take, hq]
              rw [hgs] at hrs
              have hdl : g.all.dropLast.length ≤ 100000 := by rw [List.length_dropLast]; omega
              have HGET := Lib.hid (get3_at HC.out _ _ _ _ _ hrs hdl hgo)
              have hob : decide (o ≤ g.all.length) = true := decide_eq_true ho
              clear hgs hrs hrc hq hgo ho hc0 hdl
              go_wp2_with fail
              refine HGET.out.mono ?_
              rintro r wz ⟨vz, rfl, -, hbz⟩
              have HB := Lib.hid (hBt.trans (hbz.mono hBt.size))
              clear hBt hbz
              go_wp2
              go_ret
              exact ⟨rfl, HB.out⟩

end Go.Proofs.Ytdpaijechogmlaa
