/-
  Package lex: All: what its deferred function does, and the whole. No condition but those of each theorem.
-/
import Derived.Test.YtgpcbfjakgndlaaLexFnI
import Derived.Defers
import Derived.Recover
import Derived.RegionTactic
namespace Go.Proofs.Ytgpcbfjakgndlaa
open Go.RowKit
set_option linter.unusedSimpArgs false

theorem assert_prob (x y : Int) (w : World) : (Instr.typeAssert (.iface 42 (.agg #[.int .i64 x, .int .i64 y])) 20 42 true).run Try.prog w = .ok (.tuple #[.agg #[.int .i64 x, .int .i64 y], .bool true]) w := by kernel_rfl
/-- The chain behind recover. -/
def prbR (q : Ps) : List PanicEntry := [{ v := .iface 42 (.agg #[.int .i64 (q.1 : Int), .int .i64 (q.2 : Int)]), recovered := true }]
def CatchP (a b : Nat) (q : Ps) (w : World) (r : Ending) (u : FrameMode) (w' : World) : Prop :=
  r = .returned (.tuple #[]) ∧ u = .panicking (prbR q) ∧ Blk w' a 24 #[.int .i64 20] ∧ Blk w' b 26 #[.int .i64 (q.1 : Int), .int .i64 (q.2 : Int)] ∧ Below a w w'
set_option maxRecDepth 100000 in
set_option maxHeartbeats 2000000 in
theorem catch_panics (a b : Nat) (q : Ps) (e x y : Int) (w : World) (h3 : Blk w a 24 #[.int .i64 e]) (h4 : Blk w b 26 #[.int .i64 x, .int .i64 y]) (hab : a < b) :
    CallsD Try.prog 17 #[.pointer (some ⟨a, 0, none⟩), .pointer (some ⟨b, 0, none⟩)] (.panicking (prb q)) w (CatchP a b q w) := by
  refine callsD_of_wpS Try.func17 rfl fun c₀ cs hu => ?_
  unfold prb at hu
  have hta := assert_prob
  have hfr : (#[Value.pointer (some ⟨a, 0, none⟩), .pointer (some ⟨b, 0, none⟩)] ++ Array.replicate (Try.f17.ntmps - (#[Value.pointer (some ⟨a, 0, none⟩), .pointer (some ⟨b, 0, none⟩)] : Array Value).size) undef) = #[Value.pointer (some ⟨a, 0, none⟩), .pointer (some ⟨b, 0, none⟩), undef, undef, undef, undef, undef, undef, undef, undef, undef, undef, undef, undef, undef, undef, undef, undef] := rfl
  rw [hfr]
  clear hfr
  apply wpS_seq
  apply wpS_region
  simp [wpOpsS, go_sem, recoverD, hu, Exit.thenS]
  refine wpS_of_wp ?_
  go_wp2
  obtain ⟨W, hW⟩ : ∃ W, W = w.alloc (.cells #[.int .i64 (q.1 : Int), .int .i64 (q.2 : Int)] 42) := ⟨_, rfl⟩
  have hbA : Below w.heap.size w W := by rw [hW]; exact (Below.refl _ w).alloc (Nat.le_refl _) _
  have hbx : Blk W w.heap.size 42 #[.int .i64 (q.1 : Int), .int .i64 (q.2 : Int)] := by rw [hW]; exact Blk.new w _ _
  have ha := h3.lt
  have hb := h4.lt
  have h3W := h3.below hbA ha
  have h4W := h4.below hbA hb
  rw [← hW]
  obtain ⟨z, hz⟩ : ∃ z, z = w.heap.size := ⟨_, rfl⟩
  rw [← hz] at hbx ha hb ⊢
  have hBW : Below a w W := hbA.mono (by omega)
  clear hW hbA h3 h4 hta hz
  have n1 : ¬ a = b := by omega
  have n2 : ¬ a = z := by omega
  have n3 : ¬ b = z := by omega
  have n4 : ¬ b = a := by omega
  have n5 : ¬ z = a := by omega
  have n6 : ¬ z = b := by omega
  have k0 : W.cell? ⟨z, 0, none⟩ = some (.int .i64 (q.1 : Int)) := hbx.cell 0
  have k1 : W.cell? ⟨z, 1, none⟩ = some (.int .i64 (q.2 : Int)) := hbx.cell 1
  have a0 : W.cell? ⟨a, 0, none⟩ = some (.int .i64 e) := h3W.cell 0
  have b0 : W.cell? ⟨b, 0, none⟩ = some (.int .i64 x) := h4W.cell 0
  have b1 : W.cell? ⟨b, 1, none⟩ = some (.int .i64 y) := h4W.cell 1
  have fa := h3W.frozen 0
  have fb0 := h4W.frozen 0
  have fb1 := h4W.frozen 1
  have HP : Hid (∀ W', W' = (((W.drew.setCell ⟨a, 0, none⟩ (.int .i64 20)).setCell ⟨b, 0, none⟩ (.int .i64 (q.1 : Int))).setCell ⟨b, 1, none⟩ (.int .i64 (q.2 : Int))) → CatchP a b q w (.returned (.tuple #[])) (.panicking (prbR q)) W') := Lib.hid (fun W' h => by
    subst h
    refine ⟨rfl, rfl, ?_, ?_, (((hBW.drew.setCell (p := ⟨a, 0, none⟩) (Nat.le_refl a) _).setCell (p := ⟨b, 0, none⟩) (Nat.le_of_lt hab) _).setCell (p := ⟨b, 1, none⟩) (Nat.le_of_lt hab) _)⟩
    · exact Blk.far (Blk.far (Blk.set_ (w := W.drew) h3W 0 (.int .i64 20)) n1 _) n1 _
    · exact Blk.set_ (Blk.set_ (Blk.far (w := W.drew) h4W n4 _) 0 (.int .i64 (q.1 : Int))) 1 (.int .i64 (q.2 : Int)))
  clear hbx h3W h4W hBW
  go_region
  all_goals exact ⟨rfl, .panicking (prbR q), rfl, _, results_none rfl _ _ _, HP.out _ rfl⟩
set_option maxRecDepth 100000 in
set_option maxHeartbeats 2000000 in
theorem catch_idle (a b : Nat) (w : World) :
    CallsD Try.prog 17 #[.pointer (some ⟨a, 0, none⟩), .pointer (some ⟨b, 0, none⟩)] .returning w fun e u' w' => e = .returned (.tuple #[]) ∧ u' = .returning ∧ w' = w := by
  refine callsD_of_wpS Try.func17 rfl fun c₀ cs hu => ?_
  have hfr : (#[Value.pointer (some ⟨a, 0, none⟩), .pointer (some ⟨b, 0, none⟩)] ++ Array.replicate (Try.f17.ntmps - (#[Value.pointer (some ⟨a, 0, none⟩), .pointer (some ⟨b, 0, none⟩)] : Array Value).size) undef) = #[Value.pointer (some ⟨a, 0, none⟩), .pointer (some ⟨b, 0, none⟩), undef, undef, undef, undef, undef, undef, undef, undef, undef, undef, undef, undef, undef, undef, undef, undef] := rfl
  rw [hfr]
  clear hfr
  apply wpS_seq
  apply wpS_region
  simp [wpOpsS, go_sem, recoverD, hu, Exit.thenS]
  refine wpS_of_wp ?_
  go_wp2
  exact ⟨rfl, .returning, by rw [← hu], _, results_none rfl _ _ _, rfl, rfl, rfl⟩

theorem resAllL {tmps : Array Value} {W : World} {a b : Nat} {v : Value} {e x y : Int} (h2 : tmps.getD 2 undef = v) (h3 : tmps.getD 3 undef = .pointer (some ⟨a, 0, none⟩)) (h4 : tmps.getD 4 undef = .pointer (some ⟨b, 0, none⟩)) (p : Blk W a 24 #[.int .i64 e]) (q : Blk W b 26 #[.int .i64 x, .int .i64 y]) :
    (results Try.f9 tmps).run Try.prog W = .ok (.tuple #[v, .int .i64 e, .agg #[.int .i64 x, .int .i64 y]]) W := by
  have e0 := p.cell 0
  have c0 := q.cell 0
  have c1 := q.cell 1
  have g2 : tmps[2]?.getD undef = v := by simpa using h2
  have g3 : tmps[3]?.getD undef = .pointer (some ⟨a, 0, none⟩) := by simpa using h3
  have g4 : tmps[4]?.getD undef = .pointer (some ⟨b, 0, none⟩) := by simpa using h4
  simp [results, Try.f9, go_sem, g2, g3, g4, e0, c0, c1]
set_option maxRecDepth 100000 in
set_option maxHeartbeats 2000000 in
theorem lexAll_any (s : List UInt8) (w : World) (hs : s.length ≤ 20000) : Calls Try.prog 9 #[.string (txt s)] w (LexAllP s w) := by
  have hsz := txt_size s
  have hmf : ∀ (fn : Fn) (first cap : Array Value) (w : World), (Instr.makeFunc fn first cap).run Try.prog w = .ok (.func fn first cap) w := fun _ _ _ _ => rfl
  by_cases h8 : 8192 < s.length
  · have HX : Hid (allX s = ([], 14, (0, 0))) := Lib.hid (by unfold allX; rw [if_pos h8])
    have i0 : (8192 : Int) < (s.length : Int) := by omega
    clear h8
    have hE : Blk ((w.alloc (.cells #[.int .i64 14] 24)).alloc (.cells #[.int .i64 0, .int .i64 0] 26)) w.heap.size 24 #[.int .i64 14] := (Blk.new w _ _).alloc _
    have hP : Blk ((w.alloc (.cells #[.int .i64 14] 24)).alloc (.cells #[.int .i64 0, .int .i64 0] 26)) (w.heap.size + 1) 26 #[.int .i64 0, .int .i64 0] := by
      have := Blk.new (w.alloc (.cells #[.int .i64 14] 24)) 26 #[.int .i64 0, .int .i64 0]
      simpa using this
    have HB := Lib.hid (((Below.refl w.heap.size w).alloc (Nat.le_refl _) (.cells #[.int .i64 14] 24)).alloc (by simp) (.cells #[.int .i64 0, .int .i64 0] 26))
    have HE := Lib.hid hE
    have HP := Lib.hid hP
    clear hE hP
    go_enter_defers Try.func9, Try.ntmps9
    go_wp2
    exact ⟨_, resAllL rfl rfl rfl HE.out HP.out, .slice none 0 0, 0, by rw [HX.out]; rfl, by rw [HX.out]; exact RowK.nil _ _ _, HB.out⟩
  · have HX : Hid (allX s = lx (1, 1) (cut s)) := Lib.hid (by unfold allX; rw [if_neg h8])
    have i0 : ¬ (8192 : Int) < (s.length : Int) := by omega
    clear h8
    obtain ⟨W, hW⟩ : ∃ W, W = (w.alloc (.cells #[.int .i64 0] 24)).alloc (.cells #[.int .i64 0, .int .i64 0] 26) := ⟨_, rfl⟩
    have hE : Blk W w.heap.size 24 #[.int .i64 0] := by rw [hW]; exact (Blk.new w _ _).alloc _
    have hP : Blk W (w.heap.size + 1) 26 #[.int .i64 0, .int .i64 0] := by
      have := Blk.new (w.alloc (.cells #[.int .i64 0] 24)) 26 #[.int .i64 0, .int .i64 0]
      rw [hW]
      simpa using this
    have hB0 : Below w.heap.size w W := by rw [hW]; exact ((Below.refl w.heap.size w).alloc (Nat.le_refl _) _).alloc (by simp) _
    have hWs : w.heap.size + 2 ≤ W.heap.size := by have := hP.lt; omega
    have TK := Lib.hid (tokens_any s W hs)
    rcases lx_ends (1, 1) (cut s) with ⟨h1, h2, -⟩ | ⟨h1, h2⟩
    · have TK2 : Hid (Calls Try.prog 18 #[.string (txt s)] W (fun r w' => ∃ v d, W.heap.size ≤ d ∧ r = .returned v ∧ Toks w' d v (lx (1, 1) (cut s)).1 ∧ Below W.heap.size W w')) := Lib.hid (TK.out.mono fun _ _ ⟨g1, g2⟩ => by
        rcases g2 with ⟨_, v, d, k1, k2, k3⟩ | ⟨k, _⟩
        · exact ⟨v, d, k1, k2, k3, g1⟩
        · rw [h1] at k; exact absurd k (by decide))
      obtain ⟨L, hL⟩ : ∃ L, L = (lx (1, 1) (cut s)).1 := ⟨_, rfl⟩
      have HL : Hid (allX s = (L, 0, (0, 0))) := Lib.hid (by rw [HX.out, hL, ← h1, ← h2])
      rw [← hL] at TK2
      clear TK h1 h2 hL HX
      have HE := Lib.hid hE
      have HP := Lib.hid hP
      have HB0 := Lib.hid hB0
      have HWs := Lib.hid hWs
      clear hE hP hB0 hWs
      subst hW
      go_enter_defers Try.func9, Try.ntmps9
      go_wp2_with fail
      refine TK2.out.mono ?_
      rintro r w3 ⟨v, d, hd, rfl, ht, hB3⟩
      have hE3 := HE.out.below hB3 HE.out.lt
      have hP3 := HP.out.below hB3 HP.out.lt
      have hB4 := HB0.out.trans (hB3.mono HB0.out.size)
      have hws := HWs.out
      have n1 : ¬ w.heap.size = w.heap.size + 1 := by omega
      have n2 : ¬ w.heap.size + 1 = w.heap.size := by omega
      have e0 : w3.cell? ⟨w.heap.size, 0, none⟩ = some (.int .i64 0) := hE3.cell 0
      have p0 : w3.cell? ⟨w.heap.size + 1, 0, none⟩ = some (.int .i64 0) := hP3.cell 0
      have p1 : w3.cell? ⟨w.heap.size + 1, 1, none⟩ = some (.int .i64 0) := hP3.cell 1
      have fe := hE3.frozen 0
      have fp0 := hP3.frozen 0
      have fp1 := hP3.frozen 1
      have HE4 := Lib.hid (Blk.far (Blk.far (hE3.set_ 0 (.int .i64 0)) (p := ⟨w.heap.size + 1, 0, none⟩) n1 (.int .i64 0)) (p := ⟨w.heap.size + 1, 1, none⟩) n1 (.int .i64 0))
      have HP4 := Lib.hid (((hP3.far (p := ⟨w.heap.size, 0, none⟩) n2 (.int .i64 0)).set_ 0 (.int .i64 0)).set_ 1 (.int .i64 0))
      have HB5 := Lib.hid (((hB4.setCell (p := ⟨w.heap.size, 0, none⟩) (Nat.le_refl _) (.int .i64 0)).setCell (p := ⟨w.heap.size + 1, 0, none⟩) (Nat.le_succ _) (.int .i64 0)).setCell (p := ⟨w.heap.size + 1, 1, none⟩) (Nat.le_succ _) (.int .i64 0))
      have HT := Lib.hid (((RowK.grown ht (gr_set ⟨w.heap.size, 0, none⟩ (.int .i64 0)) (fun _ => by simp; omega)).grown (gr_set ⟨w.heap.size + 1, 0, none⟩ (.int .i64 0)) (fun _ => by simp; omega)).grown (gr_set ⟨w.heap.size + 1, 1, none⟩ (.int .i64 0)) (fun _ => by simp; omega))
      clear hE3 hP3 hB4 hB3 ht
      go_wp2
      refine leaves_cons (f := 17) (args := #[.pointer (some ⟨w.heap.size, 0, none⟩), .pointer (some ⟨w.heap.size + 1, 0, none⟩)]) (by simp) (by simp [go_sem]) ?_
      refine (catch_idle w.heap.size (w.heap.size + 1) _).mono ?_
      rintro e u' w'' ⟨rfl, rfl, rfl⟩
      exact ⟨_, resAllL rfl rfl rfl HE4.out HP4.out, v, d, by rw [HL.out]; rfl, by rw [HL.out]; exact HT.out, HB5.out⟩
    · obtain ⟨q, hq⟩ : ∃ q, q = (lx (1, 1) (cut s)).2.2 := ⟨_, rfl⟩
      have TK2 : Hid (Calls Try.prog 18 #[.string (txt s)] W (fun r w' => r = .panicked (prb q) ∧ Below W.heap.size W w')) := Lib.hid (TK.out.mono fun _ _ ⟨g1, g2⟩ => by
        rcases g2 with ⟨k, _⟩ | ⟨_, k⟩
        · rw [h1] at k; exact absurd k (by decide)
        · exact ⟨by rw [hq]; exact k, g1⟩)
      have HL : Hid (allX s = ([], 20, q)) := Lib.hid (by rw [HX.out, hq, ← h1, ← h2])
      clear TK h1 h2 hq HX
      have HE := Lib.hid hE
      have HP := Lib.hid hP
      have HB0 := Lib.hid hB0
      have HWs := Lib.hid hWs
      clear hE hP hB0 hWs
      subst hW
      go_enter_defers Try.func9, Try.ntmps9
      go_wp2_with fail
      refine TK2.out.mono ?_
      rintro r w3 ⟨rfl, hB3⟩
      have HE3 := Lib.hid (HE.out.below hB3 HE.out.lt)
      have HP3 := Lib.hid (HP.out.below hB3 HP.out.lt)
      have HB4 := Lib.hid (HB0.out.trans (hB3.mono HB0.out.size))
      clear hB3
      go_wp2
      refine leaves_cons (f := 17) (args := #[.pointer (some ⟨w.heap.size, 0, none⟩), .pointer (some ⟨w.heap.size + 1, 0, none⟩)]) (by simp) (by simp [go_sem]) ?_
      refine (catch_panics w.heap.size (w.heap.size + 1) q _ _ _ _ HE3.out HP3.out (Nat.lt_succ_self _)).mono ?_
      rintro e u' w'' ⟨rfl, rfl, hE4, hP4, hB5⟩
      exact ⟨_, resAllL rfl rfl rfl hE4 hP4, .slice none 0 0, 0, by rw [HL.out]; rfl, by rw [HL.out]; exact RowK.nil _ _ _, HB4.out.trans hB5⟩

end Go.Proofs.Ytgpcbfjakgndlaa
