/- SpvFnH -/
import Derived.Test.YtikmilcdibldhaaDoorAM0
import Derived.Test.YtikmilcdibldhaaDoorAM23
import Derived.Test.YtikmilcdibldhaaDoorAM24
set_option linter.unusedSimpArgs false
set_option linter.unusedVariables false
namespace Go.Proofs.YtikmilcdibldhaaDoor
open Go.RowKit
def Rw (lo base : Nat) (w : World) (g : Nat) : Prop := lo ≤ g ∧ Fresh base w g
theorem Rw.below {lo base : Nat} {w w' : World} {g : Nat} (h : Rw lo base w g) (hb : Below w.heap.size w w') : Rw lo base w' g := ⟨h.1, h.2.below hb⟩
theorem Rw.of {lo base : Nat} {w : World} {g : Nat} {t : TypeId} {cs : Array Value} (h : Blk w g t cs) (h1 : lo ≤ g) (h2 : base ≤ g) : Rw lo base w g := ⟨h1, h2, cs, t, h⟩
theorem Rw.lt {lo base : Nat} {w : World} {g : Nat} (h : Rw lo base w g) : g < w.heap.size := h.2.lt
theorem FunV.below {w w' : World} {lo base : Nat} {fv : Value} {d : ChD} {k : ChF} (h : FunV w (Rw lo base w) fv d k) (hb : Below w.heap.size w w') : FunV w' (Rw lo base w') fv d k := h.keep (fun g hg => hb.block g hg.lt) (fun g hg => hg.below hb)
theorem ChS.below {w w' : World} {lo base : Nat} {v : Value} {f : ChF} (h : ChS w (Rw lo base w) v f) (hb : Below w.heap.size w w') : ChS w' (Rw lo base w') v f := h.keep (fun g hg => hb.block g hg.lt) (fun g hg => hg.below hb)
theorem SpcD.below {w w' : World} {lo base : Nat} {cs : List Value} {a : SpD} (h : SpcD w (Rw lo base w) cs a) (hb : Below w.heap.size w w') : SpcD w' (Rw lo base w') cs a := stay_spc _ _ _ _ _ _ (fun g hg => hb.block g hg.lt) (fun g hg => hg.below hb) h
theorem ChS.one {w : World} {lo base : Nat} {fv : Value} {d : ChD} {k : ChF} {t : TypeId} (h : FunV w (Rw lo base w) fv d k) (h1 : lo ≤ w.heap.size) (h2 : base ≤ w.heap.size) :
  ChS (w.alloc (.cells #[fv] t)) (Rw lo base (w.alloc (.cells #[fv] t))) (.slice (some ⟨w.heap.size, 0, none⟩) 1 1) (.cons d k .nil) := by
 have hb : Below w.heap.size w (w.alloc (.cells #[fv] t)) := (Below.refl _ _).alloc (Nat.le_refl _) _
 have hn := Blk.new w t #[fv]
 exact ⟨_, 1, rfl, Nat.le_refl _, fun _ => ⟨w.heap.size, 0, rfl, Rw.of hn h1 h2, ChAt.cons_iff.2 ⟨⟨fv, hn.cell 0, h.below hb⟩, trivial⟩⟩⟩
theorem ChS.two {w : World} {lo base : Nat} {fv fu : Value} {d e : ChD} {k l : ChF} {t : TypeId} (h : FunV w (Rw lo base w) fv d k) (h' : FunV w (Rw lo base w) fu e l) (h1 : lo ≤ w.heap.size) (h2 : base ≤ w.heap.size) :
  ChS (w.alloc (.cells #[fv, fu] t)) (Rw lo base (w.alloc (.cells #[fv, fu] t))) (.slice (some ⟨w.heap.size, 0, none⟩) 2 2) (.cons d k (.cons e l .nil)) := by
 have hb : Below w.heap.size w (w.alloc (.cells #[fv, fu] t)) := (Below.refl _ _).alloc (Nat.le_refl _) _
 have hn := Blk.new w t #[fv, fu]
 exact ⟨_, 2, rfl, Nat.le_refl _, fun _ => ⟨w.heap.size, 0, rfl, Rw.of hn h1 h2, ChAt.cons_iff.2 ⟨⟨fv, hn.cell 0, h.below hb⟩, ChAt.cons_iff.2 ⟨⟨fu, hn.cell 1, h'.below hb⟩, trivial⟩⟩⟩⟩
def MkP (q : Fn) (n : Nat) (P : Value → World → Prop) (w : World) (r : Ending) (w' : World) : Prop := ∃ cap : Array Value, cap.size = n ∧ r = .returned (.func q #[] cap) ∧ P (.func q #[] cap) w' ∧ Below w.heap.size w w'
set_option maxRecDepth 100000 in
set_option maxHeartbeats 1000000 in
theorem named_any (n : List UInt8) (lo base : Nat) (w : World) (h1 : lo ≤ w.heap.size) (h2 : base ≤ w.heap.size) :
  Calls Tryd.prog 57 #[.string (txt n)] w (MkP (.func 67) 1 (fun fv w' => FunV w' (Rw lo base w') fv ⟨0, n, zeroD⟩ .nil) w) := by
 have hmf : ∀ (fn : Fn) (first cap : Array Value) (w : World), (Instr.makeFunc fn first cap).run Tryd.prog w = .ok (.func fn first cap) w := fun _ _ _ _ => rfl
 have HP : Hid (Blk (w.alloc (.cells #[.string (txt n)] 9)) w.heap.size 9 #[.string (txt n)]) := Lib.hid (Blk.new w _ _)
 go_enter Tryd.func57, Tryd.ntmps57
 go_wp2
 go_ret
 exact ⟨_, rfl, rfl, .inl ⟨rfl, _, rfl, Rw.of HP.out h1 h2, HP.out⟩, (Below.refl _ _).alloc (Nat.le_refl _) _⟩
set_option maxRecDepth 100000 in
set_option maxHeartbeats 1000000 in
theorem in_any (n : List UInt8) (A : Option Addr) (c : Nat) (k : ChF) (lo base : Nat) (w : World) (hch : ChS w (Rw lo base w) (.slice A k.len c) k) (h1 : lo ≤ w.heap.size) (h2 : base ≤ w.heap.size) :
  Calls Tryd.prog 54 #[.string (txt n), .slice A k.len c] w (MkP (.func 64) 2 (fun fv w' => FunV w' (Rw lo base w') fv ⟨2, n, zeroD⟩ k) w) := by
 have hmf : ∀ (fn : Fn) (first cap : Array Value) (w : World), (Instr.makeFunc fn first cap).run Tryd.prog w = .ok (.func fn first cap) w := fun _ _ _ _ => rfl
 have HP : Hid (Blk ((w.alloc (.cells #[.string (txt n)] 9)).alloc (.cells #[.slice A k.len c] 103)) w.heap.size 9 #[.string (txt n)]) := Lib.hid ((Blk.new w _ _).alloc _)
 have HQ : Hid (Blk ((w.alloc (.cells #[.string (txt n)] 9)).alloc (.cells #[.slice A k.len c] 103)) (w.heap.size + 1) 103 #[.slice A k.len c]) := Lib.hid (Blk.new_at (by simp) _ _)
 have HB : Hid (Below w.heap.size w ((w.alloc (.cells #[.string (txt n)] 9)).alloc (.cells #[.slice A k.len c] 103))) := Lib.hid (((Below.refl _ _).alloc (Nat.le_refl _) _).alloc (by simp) _)
 have HC := Lib.hid (hch.below HB.out)
 clear hch
 go_enter Tryd.func54, Tryd.ntmps54
 go_wp2
 go_ret
 exact ⟨_, rfl, rfl, .inr (.inr ⟨show (2 : Nat) ≠ 0 by decide, show (2 : Nat) ≠ 1 by decide, _, _, A, c, rfl, Rw.of HP.out h1 h2, Rw.of HQ.out (by omega) (by omega), HP.out, HQ.out, HC.out⟩), HB.out⟩
set_option maxRecDepth 100000 in
set_option maxHeartbeats 1000000 in
theorem after_any (n : List UInt8) (d : SpD) (A : Option Addr) (m c : Nat) (lo base : Nat) (w : World) (hd : SpcD w (Rw lo base w) (spC d (.slice A m c) (.slice none 0 0)) d) (h1 : lo ≤ w.heap.size) (h2 : base ≤ w.heap.size) :
  Calls Tryd.prog 55 #[.string (txt n), .agg (spC d (.slice A m c) (.slice none 0 0)).toArray] w (MkP (.func 65) 2 (fun fv w' => FunV w' (Rw lo base w') fv ⟨1, n, d⟩ .nil) w) := by
 have hmf : ∀ (fn : Fn) (first cap : Array Value) (w : World), (Instr.makeFunc fn first cap).run Tryd.prog w = .ok (.func fn first cap) w := fun _ _ _ _ => rfl
 have HP : Hid (Blk ((w.alloc (.cells #[.string (txt n)] 9)).alloc (.cells (spC d (.slice A m c) (.slice none 0 0)).toArray 34)) w.heap.size 9 #[.string (txt n)]) := Lib.hid ((Blk.new w _ _).alloc _)
 have HQ : Hid (Blk ((w.alloc (.cells #[.string (txt n)] 9)).alloc (.cells (spC d (.slice A m c) (.slice none 0 0)).toArray 34)) (w.heap.size + 1) 34 (spC d (.slice A m c) (.slice none 0 0)).toArray) := Lib.hid (Blk.new_at (by simp) _ _)
 have HB : Hid (Below w.heap.size w ((w.alloc (.cells #[.string (txt n)] 9)).alloc (.cells (spC d (.slice A m c) (.slice none 0 0)).toArray 34))) := Lib.hid (((Below.refl _ _).alloc (Nat.le_refl _) _).alloc (by simp) _)
 have HC := Lib.hid (hd.below HB.out)
 clear hd
 have HE : Hid (∀ w', w' = (w.alloc (.cells #[.string (txt n)] 9)).alloc (.cells (spC d (.slice A m c) (.slice none 0 0)).toArray 34) → MkP (.func 65) 2 (fun fv w' => FunV w' (Rw lo base w') fv ⟨1, n, d⟩ .nil) w (.returned (.func (.func 65) #[] #[.pointer (some ⟨w.heap.size, 0, none⟩), .pointer (some ⟨w.heap.size + 1, 0, none⟩)])) w') := Lib.hid (by
  rintro w' rfl
  exact ⟨_, rfl, rfl, .inr (.inl ⟨rfl, _, _, _, rfl, Rw.of HP.out h1 h2, Rw.of HQ.out (by omega) (by omega), HP.out, HQ.out, HC.out, rfl⟩), HB.out⟩)
 clear HP HQ HB HC
 generalize hM : MkP (.func 65) 2 (fun fv w' => FunV w' (Rw lo base w') fv ⟨1, n, d⟩ .nil) w = M at HE ⊢
 clear hM
 unfold spC at HE ⊢
 go_enter Tryd.func55, Tryd.ntmps55
 go_wp2
 exact HE.out _ rfl
theorem new_changed {w1 w2 : World} {base : Nat} {cs : List Value} {x : Sp} {v : Value} {k : ChF} (hX : NewX base w1 cs x) (hb : base ≤ w1.heap.size) (h : Below w1.heap.size w1 w2) (hch : ChS w2 (Rw w1.heap.size base w2) v k) (hkl : k.len ≤ 1000) (hok : okC k x = true) :
  Calls Tryd.prog 53 #[.agg cs.toArray, v] w2 (fun r w' => ∃ cs', r = .returned (.agg cs'.toArray) ∧ NewX base w' cs' (runC k x) ∧ Below base w2 w') := by
 obtain ⟨F, R1, nd, hR1, own⟩ := hX
 have hF : ∀ g, g ∈ F → g < w1.heap.size := own.lt
 have hsz := h.size
 have hRF : ∀ g, (R1 g ∨ Rw w1.heap.size base w2 g) → Fresh base w2 g ∧ g ∉ F := fun g hg => by
  rcases hg with hg | hg
  ·exact ⟨(hR1 g hg).1.below h, (hR1 g hg).2⟩
  ·exact ⟨hg.2, fun e => by have := hF g e; have := hg.1; omega⟩
 refine (changed_any k base (fun g => R1 g ∨ Rw w1.heap.size base w2 g) F cs x v w2
  (own.keep (fun g hg => h.block g (hF g hg)) (fun g hg => h.block g (hR1 g hg).1.lt) (fun g hg => .inl hg) (Nat.le_refl _)) nd
  (fun g hg => ⟨(hRF g hg).1.lt, (hRF g hg).2⟩) (by omega) (hch.keep (fun _ _ => rfl) (fun g hg => .inr hg)) hkl hok).mono ?_
 rintro r w3 ⟨cs', F', rfl, g2, g3, g4, g5⟩
 refine ⟨cs', rfl, ⟨F', _, g3, fun g hg => ?_, g2⟩, g5.1⟩
 obtain ⟨⟨f0, cc, t, f1⟩, f2⟩ := hRF g hg
 have hlt := (hRF g hg).1.lt
 refine ⟨⟨f0, cc, t, (g5.2 g hlt f2).trans f1⟩, fun e => ?_⟩
 rcases g4 g e with e | e
 ·exact f2 e
 ·omega
theorem NewX.set9 {base b : Nat} {w : World} {cs : List Value} {x : Sp} (h : NewX base w cs x) (hb : b < base) (x0 x1 x2 x3 x4 x5 x6 x7 x8 : Value) : NewX base (set9 w b x0 x1 x2 x3 x4 x5 x6 x7 x8) cs x := by
 obtain ⟨F, R, nd, hR, own⟩ := h
 refine ⟨F, R, nd, fun g hg => ?_, own.keep (fun g hg => set9_other (by have := (own.fresh g hg).1; omega)) (fun g hg => set9_other (by have := (hR g hg).1.1; omega)) (fun _ h => h) (Nat.le_refl _)⟩
 obtain ⟨⟨f0, cc, t, f1⟩, f2⟩ := hR g hg
 exact ⟨⟨f0, cc, t, (set9_other (by omega)).trans f1⟩, f2⟩
theorem NewX.mono {base base' : Nat} {w : World} {cs : List Value} {x : Sp} (h : NewX base w cs x) (hb : base' ≤ base) : NewX base' w cs x := by
 obtain ⟨F, R, nd, hR, own⟩ := h
 exact ⟨F, R, nd, fun g hg => ⟨⟨Nat.le_trans hb (hR g hg).1.1, (hR g hg).1.2⟩, (hR g hg).2⟩, own.keep (fun _ _ => rfl) (fun _ _ => rfl) (fun _ h => h) hb⟩
theorem NewX.below {base : Nat} {w w' : World} {cs : List Value} {x : Sp} (h : NewX base w cs x) (hb : Below w.heap.size w w') : NewX base w' cs x := by
 obtain ⟨F, R, nd, hR, own⟩ := h
 exact ⟨F, R, nd, fun g hg => ⟨(hR g hg).1.below hb, (hR g hg).2⟩, own.keep (fun g hg => hb.block g (own.lt g hg)) (fun g hg => hb.block g (hR g hg).1.lt) (fun _ h => h) (Nat.le_refl _)⟩
theorem NewX.shape {base : Nat} {w : World} {cs : List Value} {x : Sp} (h : NewX base w cs x) : ∃ B m A c, cs = [.string (txt x.1.name), .int .i64 (x.1.kind : Int), .int .i64 (x.1.typ : Int), .int .u64 (x.1.low : Int), .int .u64 (x.1.high : Int), .slice B x.1.names.length m, .bool x.1.must, .int .i64 (x.1.most : Int), .slice A x.2.len c] := by
 obtain ⟨F, R, nd, hR, own⟩ := h
 obtain ⟨B, m, A, c, d, e, _⟩ := own.spn.shape
 exact ⟨B, m, A, c, e⟩
end Go.Proofs.YtikmilcdibldhaaDoor
