/- SpvFnE -/
import Derived.Test.YtikmilcdibldhaaDoorAM0
import Derived.Test.YtikmilcdibldhaaDoorAM2
import Derived.Test.YtikmilcdibldhaaDoorAM20
set_option linter.unusedSimpArgs false
set_option linter.unusedVariables false
namespace Go.Proofs.YtikmilcdibldhaaDoor
open Go.RowKit
theorem Blk.later {w0 w w' : World} {g : Nat} {t : TypeId} {cs : Array Value} (h : Blk w0 g t cs) (hb : Below w.heap.size w w') (e : w.heap = w0.heap) : Blk w' g t cs := by
 have h2 : Blk w g t cs := by unfold Blk at h ⊢; rw [e]; exact h
 exact h2.below hb h2.lt
theorem add_find {n : List UInt8} {f : SpF} {i : Nat} (h : findX n f = some i) : findI n f = (i : Int) := by unfold findI; rw [h]
set_option maxRecDepth 100000 in
set_option maxHeartbeats 4000000 in
theorem after1_any (n : List UInt8) (d : SpD) (base B p q : Nat) (R : Nat → Prop) (F : List Nat) (cs lc : List Value) (x : Sp) (w : World) (h : Sit w base R B F cs x) (hp : Blk w p 9 #[.string (txt n)]) (hq : Blk w q 34 lc.toArray)
  (hld : SpcD w R lc d) (hl8 : lc[8]? = some (.slice none 0 0)) (hRp : R p) (hRq : R q) (hRl : ∀ g, R g → g < w.heap.size) (i : Nat) (hfi : findX n x.2 = some i) (hil : i + 1 = x.2.len) (hfew : x.2.len ≤ 100) :
  Calls Tryd.prog 65 #[.pointer (some ⟨B, 0, none⟩), .pointer (some ⟨p, 0, none⟩), .pointer (some ⟨q, 0, none⟩)] w (ChgP base R B F (x.1, x.2.app (.cons d .nil .nil)) w) := by
 obtain ⟨box, own, nd, rlt, hb⟩ := h
 have hspn := own.spn
 have hFl := own.lt
 obtain ⟨v, h1, hD, h5, zs, F0, rfl, hk, ht⟩ := own
 obtain ⟨Bn, m, A, c, dn, rfl, -, -, -⟩ := hspn.shape
 simp at h5
 subst h5
 obtain ⟨b, rfl⟩ : ∃ b, A = some ⟨b, 0, none⟩ := by
  rcases hk.2 with ⟨_, h0⟩ | ⟨g, cap, cur, e, _⟩
  ·omega
  ·injection e with e; exact ⟨g, e⟩
 obtain ⟨y0, y1, y2, y3, y4, y5, y6, y7, rfl⟩ : ∃ y0 y1 y2 y3 y4 y5 y6 y7, lc = [y0, y1, y2, y3, y4, y5, y6, y7, .slice none 0 0] := by
  obtain ⟨nv, kv, dd, e, _⟩ := hld
  subst e
  simp at hl8
  subst hl8
  exact ⟨_, _, _, _, _, _, _, _, rfl⟩
 have hBl := box.lt
 have hpB : p ≠ B := (rlt p hRp).2.1
 have hqB : q ≠ B := (rlt q hRq).2.1
 have hpb : some p ≠ (Value.slice (some ⟨b, 0, none⟩) x.2.len c).ownBlock := fun e => (rlt p hRp).2.2 (by rw [← e]; simp)
 have hqb : some q ≠ (Value.slice (some ⟨b, 0, none⟩) x.2.len c).ownBlock := fun e => (rlt q hRq).2.2 (by rw [← e]; simp)
 have hbB : b ≠ B := fun e => by simp [Value.ownBlock, e] at nd
 have hbase : base ≤ w.heap.size := by omega
 -- what is kept through the region
 have HFIN : ∀ (wa w3 : World) (v' : Value), Below w.heap.size w wa → AppK 34 9 wa base (.slice (some ⟨b, 0, none⟩) x.2.len c) (x.2.len + 1) (zs ++ [y0, y1, y2, y3, y4, y5, y6, y7, .slice none 0 0]) v' w3 → Hid (ChgP base R B ((Value.slice (some ⟨b, 0, none⟩) x.2.len c).ownBlock.toList ++ F0) (x.1, x.2.app (.cons d .nil .nil)) w (.returned (.tuple #[])) (w3.setCell ⟨B, 8, none⟩ v')) := fun wa w3 v' h1 h2 =>
  Lib.hid ⟨rfl, _, after_sit (hd := [.string (txt x.1.name), .int .i64 (x.1.kind : Int), .int .i64 (x.1.typ : Int), .int .u64 (x.1.low : Int), .int .u64 (x.1.high : Int), .slice Bn x.1.names.length m, .bool x.1.must, .int .i64 (x.1.most : Int)]) box rfl hD hk ht nd rlt hb h1 h2 hld hl8⟩
 have HFI : ∀ W, Below w.heap.size w W → Hid (Calls Tryd.prog 19 #[.agg #[.string (txt x.1.name), .int .i64 (x.1.kind : Int), .int .i64 (x.1.typ : Int), .int .u64 (x.1.low : Int), .int .u64 (x.1.high : Int), .slice Bn x.1.names.length m, .bool x.1.must, .int .i64 (x.1.most : Int), .slice (some ⟨b, 0, none⟩) x.2.len c], .string (txt n)] W (fun r w' => r = .returned (.int .i64 (i : Int)) ∧ Below W.heap.size W w')) := fun W hW => Lib.hid (by
  have hF := sfind_any n _ _ _ x W (hspn.kept stay_spc (fun g hg => hW.block g (hFl g hg)) (fun _ h => h) (fun g hg => hW.block g (hRl g hg)) (fun _ h => h)) (fun g hg => Nat.lt_of_lt_of_le (hFl g hg) hW.size) (fun g hg => Nat.lt_of_lt_of_le (hRl g hg) hW.size) (by omega)
  rw [add_find hfi] at hF
  exact hF)
 have HIN : ∀ (W : World) (g : Nat), Below w.heap.size w W → Blk W g 34 #[y0, y1, y2, y3, y4, y5, y6, y7, .slice none 0 0] → Hid (Calls Tryd.prog 66 #[.slice (some ⟨b, 0, none⟩) x.2.len c, .int .i64 ((i : Int) + 1), .slice (some ⟨g, 0, none⟩) 1 1] W (fun r w' => ∃ v', r = .returned v' ∧ AppK 34 9 W base (.slice (some ⟨b, 0, none⟩) x.2.len c) (x.2.len + 1) (zs ++ [y0, y1, y2, y3, y4, y5, y6, y7, .slice none 0 0]) v' w')) := fun W g hW hg => Lib.hid (by
  have hI := sins_any b c x.2.len g base zs _ W (hk.keep (fun g hg => hW.block g (hk.fresh hg).lt)) hg rfl hld.oneC (by omega) (Nat.le_trans hbase hW.size)
  rw [show ((x.2.len : Nat) : Int) = (i : Int) + 1 by omega] at hI
  exact hI)
 have HBX : Hid (∀ (wa w3 : World) (v' : Value), Below w.heap.size w wa → AppK 34 9 wa base (.slice (some ⟨b, 0, none⟩) x.2.len c) (x.2.len + 1) (zs ++ [y0, y1, y2, y3, y4, y5, y6, y7, .slice none 0 0]) v' w3 → w3.cell? ⟨B, 8, none⟩ = some (.slice (some ⟨b, 0, none⟩) x.2.len c) ∧ w3.frozen? ⟨B, 8, none⟩ = false) := Lib.hid (fun wa w3 v' h1 h2 => by
  have hx := (box.below h1 hBl).grown h2.2.1 (fun e => hbB (by injection e with e; exact e.symm))
  exact ⟨hx.cell 8, hx.frozen 8⟩)
 have HF1 := Lib.hid HFIN
 have HF2 := Lib.hid HFI
 have HF3 := Lib.hid HIN
 have HB : Hid (Blk w.drew B 34 #[.string (txt x.1.name), .int .i64 (x.1.kind : Int), .int .i64 (x.1.typ : Int), .int .u64 (x.1.low : Int), .int .u64 (x.1.high : Int), .slice Bn x.1.names.length m, .bool x.1.must, .int .i64 (x.1.most : Int), .slice (some ⟨b, 0, none⟩) x.2.len c]) := Lib.hid box
 have HP : Hid (Blk w.drew p 9 #[.string (txt n)]) := Lib.hid hp
 have HQ : Hid (Blk w.drew q 34 #[y0, y1, y2, y3, y4, y5, y6, y7, .slice none 0 0]) := Lib.hid hq
 have HW : Hid (Below w.heap.size w w.drew) := Lib.hid (Below.refl _ _).drew
 have s0 : IntKind.i64.wrap ((i : Int) + 1) = (i : Int) + 1 := IntWalk.i64_in _ (by omega)
 have HS0 := Lib.hid s0
 have NE := Lib.hid (And.intro hpb (And.intro hqb (And.intro hpB hqB)))
 clear HFIN HFI HIN hp hq hspn hFl h1 hD hk ht nd rlt hld hl8 hRl hfi hil hfew hb hbB hbase hBl box s0 hRp hRq hpb hqb hpB hqB
 go_enter Tryd.func65, Tryd.ntmps65
 refine wp_region_noPanic ?_
 refine wp_region_held_drew (S := fun _ => True) (by kernel_rfl) trivial (fun hS => ?_)
 refine wpAnyH_take (i := 0) (oi := ?o_0) (v := ?v_0) ?i_0 (by kernel_rfl) (by kernel_rfl) (by kernel_rfl) (fun _ _ _ h => h) (Or.inl ⟨?g_0, ?y_0⟩) hS ?_
 case i_0 => simp only [layG]; rfl
 case g_0 => rfl
 case y_0 => (intro w hSw; (go_simp <;> with_reducible rfl))
 (try simp only [Act.put, layS])
 refine wpAnyH_take (i := 1) (oi := ?o_1) (v := ?v_1) ?i_1 (by kernel_rfl) (by kernel_rfl) (by kernel_rfl) (fun _ _ _ h => h) (Or.inl ⟨?g_1, ?y_1⟩) hS ?_
 case i_1 => simp only [layG]; rfl
 case g_1 => rfl
 case y_1 => (intro w hSw; (go_simp <;> with_reducible rfl))
 (try simp only [Act.put, layS])
 refine wpAnyH_take (i := 2) (oi := ?o_2) (v := ?v_2) ?i_2 (by kernel_rfl) (by kernel_rfl) (by kernel_rfl) (fun _ _ _ h => h) (Or.inl ⟨?g_2, ?y_2⟩) hS ?_
 case i_2 => simp only [layG]; rfl
 case g_2 => rfl
 case y_2 => (intro w hSw; (go_simp <;> with_reducible rfl))
 (try simp only [Act.put, layS])
 refine wpAnyH_take (i := 3) (oi := ?o_3) (v := ?v_3) ?i_3 (by kernel_rfl) (by kernel_rfl) (by kernel_rfl) (fun _ _ _ h => h) (Or.inl ⟨?g_3, ?y_3⟩) hS ?_
 case i_3 => simp only [layG]; rfl
 case g_3 => rfl
 case y_3 => (intro w hSw; (go_simp <;> with_reducible rfl))
 (try simp only [Act.put, layS])
 refine wpAnyH_take (i := 5) (oi := ?o_4) (v := ?v_4) ?i_4 (by kernel_rfl) (by kernel_rfl) (by kernel_rfl) (fun _ _ _ h => h) (Or.inl ⟨?g_4, ?y_4⟩) hS ?_
 case i_4 => simp only [layG]; rfl
 case g_4 => rfl
 case y_4 => (intro w hSw; (go_simp <;> with_reducible rfl))
 (try simp only [Act.put, layS])
 refine wpAnyH_take (i := 6) (oi := ?o_5) (v := ?v_5) ?i_5 (by kernel_rfl) (by kernel_rfl) (by kernel_rfl) (fun _ _ _ h => h) (Or.inl ⟨?g_5, ?y_5⟩) hS ?_
 case i_5 => simp only [layG]; rfl
 case g_5 => rfl
 case y_5 => (intro w hSw; (go_simp <;> with_reducible rfl))
 (try simp only [Act.put, layS])
 refine held_more (S' := fun w' => Blk w' p 9 #[.string (txt n)] ∧ Blk w' q 34 #[y0, y1, y2, y3, y4, y5, y6, y7, .slice none 0 0]) (fun _ _ => trivial) _ _ _ _ ?_
 replace hS := And.intro HP.out HQ.out
 refine wpAnyH_take (i := 8) (oi := ?o_6) (v := ?v_6) ?i_6 (by kernel_rfl) (by kernel_rfl) (by kernel_rfl) (fun _ _ _ h => h) (Or.inl ⟨?g_6, ?y_6⟩) hS ?_
 case i_6 => simp only [layG]; rfl
 case g_6 => rfl
 case y_6 => (intro w hSw; have hc := (hSw.1.cell 0).trans rfl; (go_simp <;> with_reducible rfl))
 (try simp only [Act.put, layS])
 refine wpAnyH_take (i := 11) (oi := ?o_7) (v := ?v_7) ?i_7 (by kernel_rfl) (by kernel_rfl) (by kernel_rfl) (fun _ _ _ h => h) (Or.inl ⟨?g_7, ?y_7⟩) hS ?_
 case i_7 => simp only [layG]; rfl
 case g_7 => rfl
 case y_7 => (intro w hSw; have c0 := (hSw.2.cell 0).trans rfl; have c1 := (hSw.2.cell 1).trans rfl; have c2 := (hSw.2.cell 2).trans rfl; have c3 := (hSw.2.cell 3).trans rfl; have c4 := (hSw.2.cell 4).trans rfl; have c5 := (hSw.2.cell 5).trans rfl; have c6 := (hSw.2.cell 6).trans rfl; have c7 := (hSw.2.cell 7).trans rfl; have c8 := (hSw.2.cell 8).trans rfl; (go_simp <;> with_reducible rfl))
 (try simp only [Act.put, layS])
 refine wpAnyH_ready (rs := [4, 7, 12]) (by kernel_rfl) (by simp) ?_
 refine (AllReadyH.cons (o := ?or_8) ?ir_8 (fun K hK => ?str_8) (AllReadyH.cons (o := ?or_9) ?ir_9 (fun K hK => ?str_9) (AllReadyH.cons (o := ?or_a) ?ir_a (fun K hK => ?str_a) AllReadyH.nil)))
 case ir_8 => simp only [layG]; rfl
 case ir_9 => simp only [layG]; rfl
 case ir_a => simp only [layG]; rfl
 case' str_8 =>
  rw [if_pos (by rfl)]
  have c8 := (HB.out.cell 8).trans rfl
  go_simp
  refine hK.out _ _ ?sr_8 (fun hS => ?_)
  case sr_8 => (exact hS)
  clear hK K
  (try simp only [Act.put, layS])
  clear c8
  refine wpAnyH_ready (rs := [7, 12]) (by kernel_rfl) (by simp) ?_
  refine (AllReadyH.cons (o := ?or_b) ?ir_b (fun K hK => ?str_b) (AllReadyH.cons (o := ?or_c) ?ir_c (fun K hK => ?str_c) AllReadyH.nil))
  case ir_b => simp only [layG]; rfl
  case ir_c => simp only [layG]; rfl
  case' str_b =>
   rw [if_pos (by rfl)]
   have c0 := (HB.out.cell 0).trans rfl
   have c1 := (HB.out.cell 1).trans rfl
   have c2 := (HB.out.cell 2).trans rfl
   have c3 := (HB.out.cell 3).trans rfl
   have c4 := (HB.out.cell 4).trans rfl
   have c5 := (HB.out.cell 5).trans rfl
   have c6 := (HB.out.cell 6).trans rfl
   have c7 := (HB.out.cell 7).trans rfl
   have c8 := (HB.out.cell 8).trans rfl
   go_simp
   refine hK.out _ _ ?sr_b (fun hS => ?_)
   case sr_b => (exact hS)
   clear hK K
   (try simp only [Act.put, layS])
   clear c0 c1 c2 c3 c4 c5 c6 c7 c8
   refine wpAnyH_ready (rs := [9, 12]) (by kernel_rfl) (by simp) ?_
   refine (AllReadyH.cons (o := ?or_d) ?ir_d (fun K hK => ?str_d) (AllReadyH.cons (o := ?or_e) ?ir_e (fun K hK => ?str_e) AllReadyH.nil))
   case ir_d => simp only [layG]; rfl
   case ir_e => simp only [layG]; rfl
   case' str_d =>
    rw [if_pos (by rfl)]
    go_simp
    refine (HF2.out _ HW.out).out.mono ?_
    rintro r w9 ⟨rfl, hb9⟩
    go_wp2_with fail
    refine hK.out _ _ ?sr_d (fun hS => ?_)
    case sr_d => (exact ⟨hS.1.below hb9 hS.1.lt, hS.2.below hb9 hS.2.lt⟩)
    clear hK K
    (try simp only [Act.put, layS])
    have HB := Lib.hid (HB.out.later hb9 rfl)
    have HW := Lib.hid (HW.out.trans (hb9.mono HW.out.size))
    clear hb9
    refine wpAnyH_take (i := 10) (oi := ?o_c) (v := ?v_c) ?i_c (by kernel_rfl) (by kernel_rfl) (by kernel_rfl) (fun _ _ _ h => h) (Or.inl ⟨?g_c, ?y_c⟩) hS ?_
    case i_c => simp only [layG]; rfl
    case g_c => rfl
    case y_c => (intro w hSw; have hc := HS0.out; (go_simp <;> with_reducible rfl))
    (try simp only [Act.put, layS])
    refine wpAnyH_ready (rs := [12]) (by kernel_rfl) (by simp) ?_
    refine (AllReadyH.cons (o := ?or_f) ?ir_f (fun K hK => ?str_f) AllReadyH.nil)
    case ir_f => simp only [layG]; rfl
    rw [if_pos (by rfl)]
    go_simp
    refine hK.out _ _ ?sr_f (fun hS => ?_)
    case sr_f => (exact ⟨hS.1.alloc _, hS.2.alloc _⟩)
    clear hK K
    (try simp only [Act.put, layS])
    have HL := Lib.hid (Blk.new w9 34 #[y0, y1, y2, y3, y4, y5, y6, y7, .slice none 0 0])
    have HB := Lib.hid (HB.out.alloc (.cells #[y0, y1, y2, y3, y4, y5, y6, y7, .slice none 0 0] 34))
    have HW := Lib.hid (HW.out.alloc HW.out.size (.cells #[y0, y1, y2, y3, y4, y5, y6, y7, .slice none 0 0] 34))
    refine wpAnyH_ready (rs := [13]) (by kernel_rfl) (by simp) ?_
    refine (AllReadyH.cons (o := ?or_g) ?ir_g (fun K hK => ?str_g) AllReadyH.nil)
    case ir_g => simp only [layG]; rfl
    rw [if_pos (by rfl)]
    go_simp
    refine (HF3.out _ _ HW.out HL.out).out.mono ?_
    rintro r w13 ⟨v', rfl, hap⟩
    obtain ⟨g13, c13, rfl⟩ := hap.2.2.2
    go_wp2_with fail
    refine hK.out _ _ ?sr_g (fun hS => ?_)
    case sr_g => (exact ⟨hS.1.grown hap.2.1 NE.out.1, hS.2.grown hap.2.1 NE.out.2.1⟩)
    clear hK K
    (try simp only [Act.put, layS])
    have HAP := Lib.hid hap
    clear hap
    refine wpAnyH_take (i := 14) (oi := ?o_h) (v := ?v_h) ?i_h (by kernel_rfl) (by kernel_rfl) (by kernel_rfl) (fun _ _ _ h => h) (Or.inl ⟨?g_h, ?y_h⟩) hS ?_
    case i_h => simp only [layG]; rfl
    case g_h => rfl
    case y_h => (intro w hSw; (go_simp <;> with_reducible rfl))
    (try simp only [Act.put, layS])
    refine wpAnyH_take (i := 15) (oi := ?o_i) (v := ?v_i) ?i_i (by kernel_rfl) (by kernel_rfl) (by kernel_rfl) (fun _ _ _ h => h) (Or.inl ⟨?g_i, ?y_i⟩) hS ?_
    case i_i => simp only [layG]; rfl
    case g_i => rfl
    case y_i => (intro w hSw; (go_simp <;> with_reducible rfl))
    (try simp only [Act.put, layS])
    refine wpAnyH_ready (rs := [16]) (by kernel_rfl) (by simp) ?_
    refine (AllReadyH.cons (o := ?or_j) ?ir_j (fun K hK => ?str_j) AllReadyH.nil)
    case ir_j => simp only [layG]; rfl
    rw [if_pos (by rfl)]
    have x1 := (HBX.out _ _ _ HW.out HAP.out).1
    have x2 := (HBX.out _ _ _ HW.out HAP.out).2
    go_simp
    refine hK.out _ _ ?sr_j (fun hS => ?_)
    case sr_j => (exact ⟨hS.1.far NE.out.2.2.1 _, hS.2.far NE.out.2.2.2 _⟩)
    clear hK K
    (try simp only [Act.put, layS])
    refine wpAnyH_done (by kernel_rfl) ?_ _
    refine NoPanic.normal ?_
   case' str_e =>
    rw [if_pos (by rfl)]
    go_simp
    refine hK.out _ _ ?sr_e (fun hS => ?_)
    case sr_e => (exact ⟨hS.1.alloc _, hS.2.alloc _⟩)
    clear hK K
    (try simp only [Act.put, layS])
    have HL := Lib.hid (Blk.new w 34 #[y0, y1, y2, y3, y4, y5, y6, y7, .slice none 0 0])
    have HB := Lib.hid (Blk.alloc (w := w) HB.out (.cells #[y0, y1, y2, y3, y4, y5, y6, y7, .slice none 0 0] 34))
    have HW : Hid (Below w.heap.size w (w.alloc (.cells #[y0, y1, y2, y3, y4, y5, y6, y7, .slice none 0 0] 34)).drew) := Lib.hid (((Below.refl _ _).alloc (Nat.le_refl _) _).drew)
    refine wpAnyH_ready (rs := [9]) (by kernel_rfl) (by simp) ?_
    refine (AllReadyH.cons (o := ?or_k) ?ir_k (fun K hK => ?str_k) AllReadyH.nil)
    case ir_k => simp only [layG]; rfl
    rw [if_pos (by rfl)]
    go_simp
    refine (HF2.out _ HW.out).out.mono ?_
    rintro r w9 ⟨rfl, hb9⟩
    go_wp2_with fail
    refine hK.out _ _ ?sr_k (fun hS => ?_)
    case sr_k => (exact ⟨hS.1.below hb9 hS.1.lt, hS.2.below hb9 hS.2.lt⟩)
    clear hK K
    (try simp only [Act.put, layS])
    have HB := Lib.hid (HB.out.later hb9 rfl)
    have HL := Lib.hid (HL.out.later hb9 rfl)
    have HW := Lib.hid (HW.out.trans (hb9.mono HW.out.size))
    clear hb9
    refine wpAnyH_take (i := 10) (oi := ?o_l) (v := ?v_l) ?i_l (by kernel_rfl) (by kernel_rfl) (by kernel_rfl) (fun _ _ _ h => h) (Or.inl ⟨?g_l, ?y_l⟩) hS ?_
    case i_l => simp only [layG]; rfl
    case g_l => rfl
    case y_l => (intro w hSw; have hc := HS0.out; (go_simp <;> with_reducible rfl))
    (try simp only [Act.put, layS])
    refine wpAnyH_ready (rs := [13]) (by kernel_rfl) (by simp) ?_
    refine (AllReadyH.cons (o := ?or_m) ?ir_m (fun K hK => ?str_m) AllReadyH.nil)
    case ir_m => simp only [layG]; rfl
    rw [if_pos (by rfl)]
    go_simp
    refine (HF3.out _ _ HW.out HL.out).out.mono ?_
    rintro r w13 ⟨v', rfl, hap⟩
    obtain ⟨g13, c13, rfl⟩ := hap.2.2.2
    go_wp2_with fail
    refine hK.out _ _ ?sr_m (fun hS => ?_)
    case sr_m => (exact ⟨hS.1.grown hap.2.1 NE.out.1, hS.2.grown hap.2.1 NE.out.2.1⟩)
    clear hK K
    (try simp only [Act.put, layS])
    have HAP := Lib.hid hap
    clear hap
    refine wpAnyH_take (i := 14) (oi := ?o_n) (v := ?v_n) ?i_n (by kernel_rfl) (by kernel_rfl) (by kernel_rfl) (fun _ _ _ h => h) (Or.inl ⟨?g_n, ?y_n⟩) hS ?_
    case i_n => simp only [layG]; rfl
    case g_n => rfl
    case y_n => (intro w hSw; (go_simp <;> with_reducible rfl))
    (try simp only [Act.put, layS])
    refine wpAnyH_take (i := 15) (oi := ?o_o) (v := ?v_o) ?i_o (by kernel_rfl) (by kernel_rfl) (by kernel_rfl) (fun _ _ _ h => h) (Or.inl ⟨?g_o, ?y_o⟩) hS ?_
    case i_o => simp only [layG]; rfl
    case g_o => rfl
    case y_o => (intro w hSw; (go_simp <;> with_reducible rfl))
    (try simp only [Act.put, layS])
    refine wpAnyH_ready (rs := [16]) (by kernel_rfl) (by simp) ?_
    refine (AllReadyH.cons (o := ?or_p) ?ir_p (fun K hK => ?str_p) AllReadyH.nil)
    case ir_p => simp only [layG]; rfl
    rw [if_pos (by rfl)]
    have x1 := (HBX.out _ _ _ HW.out HAP.out).1
    have x2 := (HBX.out _ _ _ HW.out HAP.out).2
    go_simp
    refine hK.out _ _ ?sr_p (fun hS => ?_)
    case sr_p => (exact ⟨hS.1.far NE.out.2.2.1 _, hS.2.far NE.out.2.2.2 _⟩)
    clear hK K
    (try simp only [Act.put, layS])
    refine wpAnyH_done (by kernel_rfl) ?_ _
    refine NoPanic.normal ?_
  case' str_c =>
   rw [if_pos (by rfl)]
   go_simp
   refine hK.out _ _ ?sr_c (fun hS => ?_)
   case sr_c => (exact ⟨hS.1.alloc _, hS.2.alloc _⟩)
   clear hK K
   (try simp only [Act.put, layS])
   have HL := Lib.hid (Blk.new w 34 #[y0, y1, y2, y3, y4, y5, y6, y7, .slice none 0 0])
   have HB := Lib.hid (Blk.alloc (w := w) HB.out (.cells #[y0, y1, y2, y3, y4, y5, y6, y7, .slice none 0 0] 34))
   have HW : Hid (Below w.heap.size w (w.alloc (.cells #[y0, y1, y2, y3, y4, y5, y6, y7, .slice none 0 0] 34)).drew) := Lib.hid (((Below.refl _ _).alloc (Nat.le_refl _) _).drew)
   refine wpAnyH_ready (rs := [7]) (by kernel_rfl) (by simp) ?_
   refine (AllReadyH.cons (o := ?or_q) ?ir_q (fun K hK => ?str_q) AllReadyH.nil)
   case ir_q => simp only [layG]; rfl
   rw [if_pos (by rfl)]
   have c0 := (HB.out.cell 0).trans rfl
   have c1 := (HB.out.cell 1).trans rfl
   have c2 := (HB.out.cell 2).trans rfl
   have c3 := (HB.out.cell 3).trans rfl
   have c4 := (HB.out.cell 4).trans rfl
   have c5 := (HB.out.cell 5).trans rfl
   have c6 := (HB.out.cell 6).trans rfl
   have c7 := (HB.out.cell 7).trans rfl
   have c8 := (HB.out.cell 8).trans rfl
   go_simp
   refine hK.out _ _ ?sr_q (fun hS => ?_)
   case sr_q => (exact hS)
   clear hK K
   (try simp only [Act.put, layS])
   clear c0 c1 c2 c3 c4 c5 c6 c7 c8
   refine wpAnyH_ready (rs := [9]) (by kernel_rfl) (by simp) ?_
   refine (AllReadyH.cons (o := ?or_r) ?ir_r (fun K hK => ?str_r) AllReadyH.nil)
   case ir_r => simp only [layG]; rfl
   rw [if_pos (by rfl)]
   go_simp
   refine (HF2.out _ HW.out).out.mono ?_
   rintro r w9 ⟨rfl, hb9⟩
   go_wp2_with fail
   refine hK.out _ _ ?sr_r (fun hS => ?_)
   case sr_r => (exact ⟨hS.1.below hb9 hS.1.lt, hS.2.below hb9 hS.2.lt⟩)
   clear hK K
   (try simp only [Act.put, layS])
   have HB := Lib.hid (HB.out.later hb9 rfl)
   have HL := Lib.hid (HL.out.later hb9 rfl)
   have HW := Lib.hid (HW.out.trans (hb9.mono HW.out.size))
   clear hb9
   refine wpAnyH_take (i := 10) (oi := ?o_s) (v := ?v_s) ?i_s (by kernel_rfl) (by kernel_rfl) (by kernel_rfl) (fun _ _ _ h => h) (Or.inl ⟨?g_s, ?y_s⟩) hS ?_
   case i_s => simp only [layG]; rfl
   case g_s => rfl
   case y_s => (intro w hSw; have hc := HS0.out; (go_simp <;> with_reducible rfl))
   (try simp only [Act.put, layS])
   refine wpAnyH_ready (rs := [13]) (by kernel_rfl) (by simp) ?_
   refine (AllReadyH.cons (o := ?or_t) ?ir_t (fun K hK => ?str_t) AllReadyH.nil)
   case ir_t => simp only [layG]; rfl
   rw [if_pos (by rfl)]
   go_simp
   refine (HF3.out _ _ HW.out HL.out).out.mono ?_
   rintro r w13 ⟨v', rfl, hap⟩
   obtain ⟨g13, c13, rfl⟩ := hap.2.2.2
   go_wp2_with fail
   refine hK.out _ _ ?sr_t (fun hS => ?_)
   case sr_t => (exact ⟨hS.1.grown hap.2.1 NE.out.1, hS.2.grown hap.2.1 NE.out.2.1⟩)
   clear hK K
   (try simp only [Act.put, layS])
   have HAP := Lib.hid hap
   clear hap
   refine wpAnyH_take (i := 14) (oi := ?o_u) (v := ?v_u) ?i_u (by kernel_rfl) (by kernel_rfl) (by kernel_rfl) (fun _ _ _ h => h) (Or.inl ⟨?g_u, ?y_u⟩) hS ?_
   case i_u => simp only [layG]; rfl
   case g_u => rfl
   case y_u => (intro w hSw; (go_simp <;> with_reducible rfl))
   (try simp only [Act.put, layS])
   refine wpAnyH_take (i := 15) (oi := ?o_v) (v := ?v_v) ?i_v (by kernel_rfl) (by kernel_rfl) (by kernel_rfl) (fun _ _ _ h => h) (Or.inl ⟨?g_v, ?y_v⟩) hS ?_
   case i_v => simp only [layG]; rfl
   case g_v => rfl
   case y_v => (intro w hSw; (go_simp <;> with_reducible rfl))
   (try simp only [Act.put, layS])
   refine wpAnyH_ready (rs := [16]) (by kernel_rfl) (by simp) ?_
   refine (AllReadyH.cons (o := ?or_w) ?ir_w (fun K hK => ?str_w) AllReadyH.nil)
   case ir_w => simp only [layG]; rfl
   rw [if_pos (by rfl)]
   have x1 := (HBX.out _ _ _ HW.out HAP.out).1
   have x2 := (HBX.out _ _ _ HW.out HAP.out).2
   go_simp
   refine hK.out _ _ ?sr_w (fun hS => ?_)
   case sr_w => (exact ⟨hS.1.far NE.out.2.2.1 _, hS.2.far NE.out.2.2.2 _⟩)
   clear hK K
   (try simp only [Act.put, layS])
   refine wpAnyH_done (by kernel_rfl) ?_ _
   refine NoPanic.normal ?_
 case' str_9 =>
  rw [if_pos (by rfl)]
  have c0 := (HB.out.cell 0).trans rfl
  have c1 := (HB.out.cell 1).trans rfl
  have c2 := (HB.out.cell 2).trans rfl
  have c3 := (HB.out.cell 3).trans rfl
  have c4 := (HB.out.cell 4).trans rfl
  have c5 := (HB.out.cell 5).trans rfl
  have c6 := (HB.out.cell 6).trans rfl
  have c7 := (HB.out.cell 7).trans rfl
  have c8 := (HB.out.cell 8).trans rfl
  go_simp
  refine hK.out _ _ ?sr_9 (fun hS => ?_)
  case sr_9 => (exact hS)
  clear hK K
  (try simp only [Act.put, layS])
  clear c0 c1 c2 c3 c4 c5 c6 c7 c8
  refine wpAnyH_ready (rs := [4, 9, 12]) (by kernel_rfl) (by simp) ?_
  refine (AllReadyH.cons (o := ?or_x) ?ir_x (fun K hK => ?str_x) (AllReadyH.cons (o := ?or_y) ?ir_y (fun K hK => ?str_y) (AllReadyH.cons (o := ?or_z) ?ir_z (fun K hK => ?str_z) AllReadyH.nil)))
  case ir_x => simp only [layG]; rfl
  case ir_y => simp only [layG]; rfl
  case ir_z => simp only [layG]; rfl
  case' str_x =>
   rw [if_pos (by rfl)]
   have c8 := (HB.out.cell 8).trans rfl
   go_simp
   refine hK.out _ _ ?sr_x (fun hS => ?_)
   case sr_x => (exact hS)
   clear hK K
   (try simp only [Act.put, layS])
   clear c8
   refine wpAnyH_ready (rs := [9, 12]) (by kernel_rfl) (by simp) ?_
   refine (AllReadyH.cons (o := ?or_10) ?ir_10 (fun K hK => ?str_10) (AllReadyH.cons (o := ?or_11) ?ir_11 (fun K hK => ?str_11) AllReadyH.nil))
   case ir_10 => simp only [layG]; rfl
   case ir_11 => simp only [layG]; rfl
   case' str_10 =>
    rw [if_pos (by rfl)]
    go_simp
    refine (HF2.out _ HW.out).out.mono ?_
    rintro r w9 ⟨rfl, hb9⟩
    go_wp2_with fail
    refine hK.out _ _ ?sr_10 (fun hS => ?_)
    case sr_10 => (exact ⟨hS.1.below hb9 hS.1.lt, hS.2.below hb9 hS.2.lt⟩)
    clear hK K
    (try simp only [Act.put, layS])
    have HB := Lib.hid (HB.out.later hb9 rfl)
    have HW := Lib.hid (HW.out.trans (hb9.mono HW.out.size))
    clear hb9
    refine wpAnyH_take (i := 10) (oi := ?o_12) (v := ?v_12) ?i_12 (by kernel_rfl) (by kernel_rfl) (by kernel_rfl) (fun _ _ _ h => h) (Or.inl ⟨?g_12, ?y_12⟩) hS ?_
    case i_12 => simp only [layG]; rfl
    case g_12 => rfl
    case y_12 => (intro w hSw; have hc := HS0.out; (go_simp <;> with_reducible rfl))
    (try simp only [Act.put, layS])
    refine wpAnyH_ready (rs := [12]) (by kernel_rfl) (by simp) ?_
    refine (AllReadyH.cons (o := ?or_13) ?ir_13 (fun K hK => ?str_13) AllReadyH.nil)
    case ir_13 => simp only [layG]; rfl
    rw [if_pos (by rfl)]
    go_simp
    refine hK.out _ _ ?sr_13 (fun hS => ?_)
    case sr_13 => (exact ⟨hS.1.alloc _, hS.2.alloc _⟩)
    clear hK K
    (try simp only [Act.put, layS])
    have HL := Lib.hid (Blk.new w9 34 #[y0, y1, y2, y3, y4, y5, y6, y7, .slice none 0 0])
    have HB := Lib.hid (HB.out.alloc (.cells #[y0, y1, y2, y3, y4, y5, y6, y7, .slice none 0 0] 34))
    have HW := Lib.hid (HW.out.alloc HW.out.size (.cells #[y0, y1, y2, y3, y4, y5, y6, y7, .slice none 0 0] 34))
    refine wpAnyH_ready (rs := [13]) (by kernel_rfl) (by simp) ?_
    refine (AllReadyH.cons (o := ?or_14) ?ir_14 (fun K hK => ?str_14) AllReadyH.nil)
    case ir_14 => simp only [layG]; rfl
    rw [if_pos (by rfl)]
    go_simp
    refine (HF3.out _ _ HW.out HL.out).out.mono ?_
    rintro r w13 ⟨v', rfl, hap⟩
    obtain ⟨g13, c13, rfl⟩ := hap.2.2.2
    go_wp2_with fail
    refine hK.out _ _ ?sr_14 (fun hS => ?_)
    case sr_14 => (exact ⟨hS.1.grown hap.2.1 NE.out.1, hS.2.grown hap.2.1 NE.out.2.1⟩)
    clear hK K
    (try simp only [Act.put, layS])
    have HAP := Lib.hid hap
    clear hap
    refine wpAnyH_take (i := 14) (oi := ?o_15) (v := ?v_15) ?i_15 (by kernel_rfl) (by kernel_rfl) (by kernel_rfl) (fun _ _ _ h => h) (Or.inl ⟨?g_15, ?y_15⟩) hS ?_
    case i_15 => simp only [layG]; rfl
    case g_15 => rfl
    case y_15 => (intro w hSw; (go_simp <;> with_reducible rfl))
    (try simp only [Act.put, layS])
    refine wpAnyH_take (i := 15) (oi := ?o_16) (v := ?v_16) ?i_16 (by kernel_rfl) (by kernel_rfl) (by kernel_rfl) (fun _ _ _ h => h) (Or.inl ⟨?g_16, ?y_16⟩) hS ?_
    case i_16 => simp only [layG]; rfl
    case g_16 => rfl
    case y_16 => (intro w hSw; (go_simp <;> with_reducible rfl))
    (try simp only [Act.put, layS])
    refine wpAnyH_ready (rs := [16]) (by kernel_rfl) (by simp) ?_
    refine (AllReadyH.cons (o := ?or_17) ?ir_17 (fun K hK => ?str_17) AllReadyH.nil)
    case ir_17 => simp only [layG]; rfl
    rw [if_pos (by rfl)]
    have x1 := (HBX.out _ _ _ HW.out HAP.out).1
    have x2 := (HBX.out _ _ _ HW.out HAP.out).2
    go_simp
    refine hK.out _ _ ?sr_17 (fun hS => ?_)
    case sr_17 => (exact ⟨hS.1.far NE.out.2.2.1 _, hS.2.far NE.out.2.2.2 _⟩)
    clear hK K
    (try simp only [Act.put, layS])
    refine wpAnyH_done (by kernel_rfl) ?_ _
    refine NoPanic.normal ?_
   case' str_11 =>
    rw [if_pos (by rfl)]
    go_simp
    refine hK.out _ _ ?sr_11 (fun hS => ?_)
    case sr_11 => (exact ⟨hS.1.alloc _, hS.2.alloc _⟩)
    clear hK K
    (try simp only [Act.put, layS])
    have HL := Lib.hid (Blk.new w 34 #[y0, y1, y2, y3, y4, y5, y6, y7, .slice none 0 0])
    have HB := Lib.hid (Blk.alloc (w := w) HB.out (.cells #[y0, y1, y2, y3, y4, y5, y6, y7, .slice none 0 0] 34))
    have HW : Hid (Below w.heap.size w (w.alloc (.cells #[y0, y1, y2, y3, y4, y5, y6, y7, .slice none 0 0] 34)).drew) := Lib.hid (((Below.refl _ _).alloc (Nat.le_refl _) _).drew)
    refine wpAnyH_ready (rs := [9]) (by kernel_rfl) (by simp) ?_
    refine (AllReadyH.cons (o := ?or_18) ?ir_18 (fun K hK => ?str_18) AllReadyH.nil)
    case ir_18 => simp only [layG]; rfl
    rw [if_pos (by rfl)]
    go_simp
    refine (HF2.out _ HW.out).out.mono ?_
    rintro r w9 ⟨rfl, hb9⟩
    go_wp2_with fail
    refine hK.out _ _ ?sr_18 (fun hS => ?_)
    case sr_18 => (exact ⟨hS.1.below hb9 hS.1.lt, hS.2.below hb9 hS.2.lt⟩)
    clear hK K
    (try simp only [Act.put, layS])
    have HB := Lib.hid (HB.out.later hb9 rfl)
    have HL := Lib.hid (HL.out.later hb9 rfl)
    have HW := Lib.hid (HW.out.trans (hb9.mono HW.out.size))
    clear hb9
    refine wpAnyH_take (i := 10) (oi := ?o_19) (v := ?v_19) ?i_19 (by kernel_rfl) (by kernel_rfl) (by kernel_rfl) (fun _ _ _ h => h) (Or.inl ⟨?g_19, ?y_19⟩) hS ?_
    case i_19 => simp only [layG]; rfl
    case g_19 => rfl
    case y_19 => (intro w hSw; have hc := HS0.out; (go_simp <;> with_reducible rfl))
    (try simp only [Act.put, layS])
    refine wpAnyH_ready (rs := [13]) (by kernel_rfl) (by simp) ?_
    refine (AllReadyH.cons (o := ?or_1a) ?ir_1a (fun K hK => ?str_1a) AllReadyH.nil)
    case ir_1a => simp only [layG]; rfl
    rw [if_pos (by rfl)]
    go_simp
    refine (HF3.out _ _ HW.out HL.out).out.mono ?_
    rintro r w13 ⟨v', rfl, hap⟩
    obtain ⟨g13, c13, rfl⟩ := hap.2.2.2
    go_wp2_with fail
    refine hK.out _ _ ?sr_1a (fun hS => ?_)
    case sr_1a => (exact ⟨hS.1.grown hap.2.1 NE.out.1, hS.2.grown hap.2.1 NE.out.2.1⟩)
    clear hK K
    (try simp only [Act.put, layS])
    have HAP := Lib.hid hap
    clear hap
    refine wpAnyH_take (i := 14) (oi := ?o_1b) (v := ?v_1b) ?i_1b (by kernel_rfl) (by kernel_rfl) (by kernel_rfl) (fun _ _ _ h => h) (Or.inl ⟨?g_1b, ?y_1b⟩) hS ?_
    case i_1b => simp only [layG]; rfl
    case g_1b => rfl
    case y_1b => (intro w hSw; (go_simp <;> with_reducible rfl))
    (try simp only [Act.put, layS])
    refine wpAnyH_take (i := 15) (oi := ?o_1c) (v := ?v_1c) ?i_1c (by kernel_rfl) (by kernel_rfl) (by kernel_rfl) (fun _ _ _ h => h) (Or.inl ⟨?g_1c, ?y_1c⟩) hS ?_
    case i_1c => simp only [layG]; rfl
    case g_1c => rfl
    case y_1c => (intro w hSw; (go_simp <;> with_reducible rfl))
    (try simp only [Act.put, layS])
    refine wpAnyH_ready (rs := [16]) (by kernel_rfl) (by simp) ?_
    refine (AllReadyH.cons (o := ?or_1d) ?ir_1d (fun K hK => ?str_1d) AllReadyH.nil)
    case ir_1d => simp only [layG]; rfl
    rw [if_pos (by rfl)]
    have x1 := (HBX.out _ _ _ HW.out HAP.out).1
    have x2 := (HBX.out _ _ _ HW.out HAP.out).2
    go_simp
    refine hK.out _ _ ?sr_1d (fun hS => ?_)
    case sr_1d => (exact ⟨hS.1.far NE.out.2.2.1 _, hS.2.far NE.out.2.2.2 _⟩)
    clear hK K
    (try simp only [Act.put, layS])
    refine wpAnyH_done (by kernel_rfl) ?_ _
    refine NoPanic.normal ?_
  case' str_y =>
   rw [if_pos (by rfl)]
   go_simp
   refine (HF2.out _ HW.out).out.mono ?_
   rintro r w9 ⟨rfl, hb9⟩
   go_wp2_with fail
   refine hK.out _ _ ?sr_y (fun hS => ?_)
   case sr_y => (exact ⟨hS.1.below hb9 hS.1.lt, hS.2.below hb9 hS.2.lt⟩)
   clear hK K
   (try simp only [Act.put, layS])
   have HB := Lib.hid (HB.out.later hb9 rfl)
   have HW := Lib.hid (HW.out.trans (hb9.mono HW.out.size))
   clear hb9
   refine wpAnyH_take (i := 10) (oi := ?o_1e) (v := ?v_1e) ?i_1e (by kernel_rfl) (by kernel_rfl) (by kernel_rfl) (fun _ _ _ h => h) (Or.inl ⟨?g_1e, ?y_1e⟩) hS ?_
   case i_1e => simp only [layG]; rfl
   case g_1e => rfl
   case y_1e => (intro w hSw; have hc := HS0.out; (go_simp <;> with_reducible rfl))
   (try simp only [Act.put, layS])
   refine wpAnyH_ready (rs := [4, 12]) (by kernel_rfl) (by simp) ?_
   refine (AllReadyH.cons (o := ?or_1f) ?ir_1f (fun K hK => ?str_1f) (AllReadyH.cons (o := ?or_1g) ?ir_1g (fun K hK => ?str_1g) AllReadyH.nil))
   case ir_1f => simp only [layG]; rfl
   case ir_1g => simp only [layG]; rfl
   case' str_1f =>
    rw [if_pos (by rfl)]
    have c8 := (HB.out.cell 8).trans rfl
    go_simp
    refine hK.out _ _ ?sr_1f (fun hS => ?_)
    case sr_1f => (exact hS)
    clear hK K
    (try simp only [Act.put, layS])
    clear c8
    refine wpAnyH_ready (rs := [12]) (by kernel_rfl) (by simp) ?_
    refine (AllReadyH.cons (o := ?or_1h) ?ir_1h (fun K hK => ?str_1h) AllReadyH.nil)
    case ir_1h => simp only [layG]; rfl
    rw [if_pos (by rfl)]
    go_simp
    refine hK.out _ _ ?sr_1h (fun hS => ?_)
    case sr_1h => (exact ⟨hS.1.alloc _, hS.2.alloc _⟩)
    clear hK K
    (try simp only [Act.put, layS])
    have HL := Lib.hid (Blk.new w9 34 #[y0, y1, y2, y3, y4, y5, y6, y7, .slice none 0 0])
    have HB := Lib.hid (HB.out.alloc (.cells #[y0, y1, y2, y3, y4, y5, y6, y7, .slice none 0 0] 34))
    have HW := Lib.hid (HW.out.alloc HW.out.size (.cells #[y0, y1, y2, y3, y4, y5, y6, y7, .slice none 0 0] 34))
    refine wpAnyH_ready (rs := [13]) (by kernel_rfl) (by simp) ?_
    refine (AllReadyH.cons (o := ?or_1i) ?ir_1i (fun K hK => ?str_1i) AllReadyH.nil)
    case ir_1i => simp only [layG]; rfl
    rw [if_pos (by rfl)]
    go_simp
    refine (HF3.out _ _ HW.out HL.out).out.mono ?_
    rintro r w13 ⟨v', rfl, hap⟩
    obtain ⟨g13, c13, rfl⟩ := hap.2.2.2
    go_wp2_with fail
    refine hK.out _ _ ?sr_1i (fun hS => ?_)
    case sr_1i => (exact ⟨hS.1.grown hap.2.1 NE.out.1, hS.2.grown hap.2.1 NE.out.2.1⟩)
    clear hK K
    (try simp only [Act.put, layS])
    have HAP := Lib.hid hap
    clear hap
    refine wpAnyH_take (i := 14) (oi := ?o_1j) (v := ?v_1j) ?i_1j (by kernel_rfl) (by kernel_rfl) (by kernel_rfl) (fun _ _ _ h => h) (Or.inl ⟨?g_1j, ?y_1j⟩) hS ?_
    case i_1j => simp only [layG]; rfl
    case g_1j => rfl
    case y_1j => (intro w hSw; (go_simp <;> with_reducible rfl))
    (try simp only [Act.put, layS])
    refine wpAnyH_take (i := 15) (oi := ?o_1k) (v := ?v_1k) ?i_1k (by kernel_rfl) (by kernel_rfl) (by kernel_rfl) (fun _ _ _ h => h) (Or.inl ⟨?g_1k, ?y_1k⟩) hS ?_
    case i_1k => simp only [layG]; rfl
    case g_1k => rfl
    case y_1k => (intro w hSw; (go_simp <;> with_reducible rfl))
    (try simp only [Act.put, layS])
    refine wpAnyH_ready (rs := [16]) (by kernel_rfl) (by simp) ?_
    refine (AllReadyH.cons (o := ?or_1l) ?ir_1l (fun K hK => ?str_1l) AllReadyH.nil)
    case ir_1l => simp only [layG]; rfl
    rw [if_pos (by rfl)]
    have x1 := (HBX.out _ _ _ HW.out HAP.out).1
    have x2 := (HBX.out _ _ _ HW.out HAP.out).2
    go_simp
    refine hK.out _ _ ?sr_1l (fun hS => ?_)
    case sr_1l => (exact ⟨hS.1.far NE.out.2.2.1 _, hS.2.far NE.out.2.2.2 _⟩)
    clear hK K
    (try simp only [Act.put, layS])
    refine wpAnyH_done (by kernel_rfl) ?_ _
    refine NoPanic.normal ?_
   case' str_1g =>
    rw [if_pos (by rfl)]
    go_simp
    refine hK.out _ _ ?sr_1g (fun hS => ?_)
    case sr_1g => (exact ⟨hS.1.alloc _, hS.2.alloc _⟩)
    clear hK K
    (try simp only [Act.put, layS])
    have HL := Lib.hid (Blk.new w9 34 #[y0, y1, y2, y3, y4, y5, y6, y7, .slice none 0 0])
    have HB := Lib.hid (HB.out.alloc (.cells #[y0, y1, y2, y3, y4, y5, y6, y7, .slice none 0 0] 34))
    have HW := Lib.hid (HW.out.alloc HW.out.size (.cells #[y0, y1, y2, y3, y4, y5, y6, y7, .slice none 0 0] 34))
    refine wpAnyH_ready (rs := [4]) (by kernel_rfl) (by simp) ?_
    refine (AllReadyH.cons (o := ?or_1m) ?ir_1m (fun K hK => ?str_1m) AllReadyH.nil)
    case ir_1m => simp only [layG]; rfl
    rw [if_pos (by rfl)]
    have c8 := (HB.out.cell 8).trans rfl
    go_simp
    refine hK.out _ _ ?sr_1m (fun hS => ?_)
    case sr_1m => (exact hS)
    clear hK K
    (try simp only [Act.put, layS])
    clear c8
    refine wpAnyH_ready (rs := [13]) (by kernel_rfl) (by simp) ?_
    refine (AllReadyH.cons (o := ?or_1n) ?ir_1n (fun K hK => ?str_1n) AllReadyH.nil)
    case ir_1n => simp only [layG]; rfl
    rw [if_pos (by rfl)]
    go_simp
    refine (HF3.out _ _ HW.out HL.out).out.mono ?_
    rintro r w13 ⟨v', rfl, hap⟩
    obtain ⟨g13, c13, rfl⟩ := hap.2.2.2
    go_wp2_with fail
    refine hK.out _ _ ?sr_1n (fun hS => ?_)
    case sr_1n => (exact ⟨hS.1.grown hap.2.1 NE.out.1, hS.2.grown hap.2.1 NE.out.2.1⟩)
    clear hK K
    (try simp only [Act.put, layS])
    have HAP := Lib.hid hap
    clear hap
    refine wpAnyH_take (i := 14) (oi := ?o_1o) (v := ?v_1o) ?i_1o (by kernel_rfl) (by kernel_rfl) (by kernel_rfl) (fun _ _ _ h => h) (Or.inl ⟨?g_1o, ?y_1o⟩) hS ?_
    case i_1o => simp only [layG]; rfl
    case g_1o => rfl
    case y_1o => (intro w hSw; (go_simp <;> with_reducible rfl))
    (try simp only [Act.put, layS])
    refine wpAnyH_take (i := 15) (oi := ?o_1p) (v := ?v_1p) ?i_1p (by kernel_rfl) (by kernel_rfl) (by kernel_rfl) (fun _ _ _ h => h) (Or.inl ⟨?g_1p, ?y_1p⟩) hS ?_
    case i_1p => simp only [layG]; rfl
    case g_1p => rfl
    case y_1p => (intro w hSw; (go_simp <;> with_reducible rfl))
    (try simp only [Act.put, layS])
    refine wpAnyH_ready (rs := [16]) (by kernel_rfl) (by simp) ?_
    refine (AllReadyH.cons (o := ?or_1q) ?ir_1q (fun K hK => ?str_1q) AllReadyH.nil)
    case ir_1q => simp only [layG]; rfl
    rw [if_pos (by rfl)]
    have x1 := (HBX.out _ _ _ HW.out HAP.out).1
    have x2 := (HBX.out _ _ _ HW.out HAP.out).2
    go_simp
    refine hK.out _ _ ?sr_1q (fun hS => ?_)
    case sr_1q => (exact ⟨hS.1.far NE.out.2.2.1 _, hS.2.far NE.out.2.2.2 _⟩)
    clear hK K
    (try simp only [Act.put, layS])
    refine wpAnyH_done (by kernel_rfl) ?_ _
    refine NoPanic.normal ?_
  case' str_z =>
   rw [if_pos (by rfl)]
   go_simp
   refine hK.out _ _ ?sr_z (fun hS => ?_)
   case sr_z => (exact ⟨hS.1.alloc _, hS.2.alloc _⟩)
   clear hK K
   (try simp only [Act.put, layS])
   have HL := Lib.hid (Blk.new w 34 #[y0, y1, y2, y3, y4, y5, y6, y7, .slice none 0 0])
   have HB := Lib.hid (Blk.alloc (w := w) HB.out (.cells #[y0, y1, y2, y3, y4, y5, y6, y7, .slice none 0 0] 34))
   have HW : Hid (Below w.heap.size w (w.alloc (.cells #[y0, y1, y2, y3, y4, y5, y6, y7, .slice none 0 0] 34)).drew) := Lib.hid (((Below.refl _ _).alloc (Nat.le_refl _) _).drew)
   refine wpAnyH_ready (rs := [4, 9]) (by kernel_rfl) (by simp) ?_
   refine (AllReadyH.cons (o := ?or_1r) ?ir_1r (fun K hK => ?str_1r) (AllReadyH.cons (o := ?or_1s) ?ir_1s (fun K hK => ?str_1s) AllReadyH.nil))
   case ir_1r => simp only [layG]; rfl
   case ir_1s => simp only [layG]; rfl
   case' str_1r =>
    rw [if_pos (by rfl)]
    have c8 := (HB.out.cell 8).trans rfl
    go_simp
    refine hK.out _ _ ?sr_1r (fun hS => ?_)
    case sr_1r => (exact hS)
    clear hK K
    (try simp only [Act.put, layS])
    clear c8
    refine wpAnyH_ready (rs := [9]) (by kernel_rfl) (by simp) ?_
    refine (AllReadyH.cons (o := ?or_1t) ?ir_1t (fun K hK => ?str_1t) AllReadyH.nil)
    case ir_1t => simp only [layG]; rfl
    rw [if_pos (by rfl)]
    go_simp
    refine (HF2.out _ HW.out).out.mono ?_
    rintro r w9 ⟨rfl, hb9⟩
    go_wp2_with fail
    refine hK.out _ _ ?sr_1t (fun hS => ?_)
    case sr_1t => (exact ⟨hS.1.below hb9 hS.1.lt, hS.2.below hb9 hS.2.lt⟩)
    clear hK K
    (try simp only [Act.put, layS])
    have HB := Lib.hid (HB.out.later hb9 rfl)
    have HL := Lib.hid (HL.out.later hb9 rfl)
    have HW := Lib.hid (HW.out.trans (hb9.mono HW.out.size))
    clear hb9
    refine wpAnyH_take (i := 10) (oi := ?o_1u) (v := ?v_1u) ?i_1u (by kernel_rfl) (by kernel_rfl) (by kernel_rfl) (fun _ _ _ h => h) (Or.inl ⟨?g_1u, ?y_1u⟩) hS ?_
    case i_1u => simp only [layG]; rfl
    case g_1u => rfl
    case y_1u => (intro w hSw; have hc := HS0.out; (go_simp <;> with_reducible rfl))
    (try simp only [Act.put, layS])
    refine wpAnyH_ready (rs := [13]) (by kernel_rfl) (by simp) ?_
    refine (AllReadyH.cons (o := ?or_1v) ?ir_1v (fun K hK => ?str_1v) AllReadyH.nil)
    case ir_1v => simp only [layG]; rfl
    rw [if_pos (by rfl)]
    go_simp
    refine (HF3.out _ _ HW.out HL.out).out.mono ?_
    rintro r w13 ⟨v', rfl, hap⟩
    obtain ⟨g13, c13, rfl⟩ := hap.2.2.2
    go_wp2_with fail
    refine hK.out _ _ ?sr_1v (fun hS => ?_)
    case sr_1v => (exact ⟨hS.1.grown hap.2.1 NE.out.1, hS.2.grown hap.2.1 NE.out.2.1⟩)
    clear hK K
    (try simp only [Act.put, layS])
    have HAP := Lib.hid hap
    clear hap
    refine wpAnyH_take (i := 14) (oi := ?o_1w) (v := ?v_1w) ?i_1w (by kernel_rfl) (by kernel_rfl) (by kernel_rfl) (fun _ _ _ h => h) (Or.inl ⟨?g_1w, ?y_1w⟩) hS ?_
    case i_1w => simp only [layG]; rfl
    case g_1w => rfl
    case y_1w => (intro w hSw; (go_simp <;> with_reducible rfl))
    (try simp only [Act.put, layS])
    refine wpAnyH_take (i := 15) (oi := ?o_1x) (v := ?v_1x) ?i_1x (by kernel_rfl) (by kernel_rfl) (by kernel_rfl) (fun _ _ _ h => h) (Or.inl ⟨?g_1x, ?y_1x⟩) hS ?_
    case i_1x => simp only [layG]; rfl
    case g_1x => rfl
    case y_1x => (intro w hSw; (go_simp <;> with_reducible rfl))
    (try simp only [Act.put, layS])
    refine wpAnyH_ready (rs := [16]) (by kernel_rfl) (by simp) ?_
    refine (AllReadyH.cons (o := ?or_1y) ?ir_1y (fun K hK => ?str_1y) AllReadyH.nil)
    case ir_1y => simp only [layG]; rfl
    rw [if_pos (by rfl)]
    have x1 := (HBX.out _ _ _ HW.out HAP.out).1
    have x2 := (HBX.out _ _ _ HW.out HAP.out).2
    go_simp
    refine hK.out _ _ ?sr_1y (fun hS => ?_)
    case sr_1y => (exact ⟨hS.1.far NE.out.2.2.1 _, hS.2.far NE.out.2.2.2 _⟩)
    clear hK K
    (try simp only [Act.put, layS])
    refine wpAnyH_done (by kernel_rfl) ?_ _
    refine NoPanic.normal ?_
   case' str_1s =>
    rw [if_pos (by rfl)]
    go_simp
    refine (HF2.out _ HW.out).out.mono ?_
    rintro r w9 ⟨rfl, hb9⟩
    go_wp2_with fail
    refine hK.out _ _ ?sr_1s (fun hS => ?_)
    case sr_1s => (exact ⟨hS.1.below hb9 hS.1.lt, hS.2.below hb9 hS.2.lt⟩)
    clear hK K
    (try simp only [Act.put, layS])
    have HB := Lib.hid (HB.out.later hb9 rfl)
    have HL := Lib.hid (HL.out.later hb9 rfl)
    have HW := Lib.hid (HW.out.trans (hb9.mono HW.out.size))
    clear hb9
    refine wpAnyH_take (i := 10) (oi := ?o_1z) (v := ?v_1z) ?i_1z (by kernel_rfl) (by kernel_rfl) (by kernel_rfl) (fun _ _ _ h => h) (Or.inl ⟨?g_1z, ?y_1z⟩) hS ?_
    case i_1z => simp only [layG]; rfl
    case g_1z => rfl
    case y_1z => (intro w hSw; have hc := HS0.out; (go_simp <;> with_reducible rfl))
    (try simp only [Act.put, layS])
    refine wpAnyH_ready (rs := [4]) (by kernel_rfl) (by simp) ?_
    refine (AllReadyH.cons (o := ?or_20) ?ir_20 (fun K hK => ?str_20) AllReadyH.nil)
    case ir_20 => simp only [layG]; rfl
    rw [if_pos (by rfl)]
    have c8 := (HB.out.cell 8).trans rfl
    go_simp
    refine hK.out _ _ ?sr_20 (fun hS => ?_)
    case sr_20 => (exact hS)
    clear hK K
    (try simp only [Act.put, layS])
    clear c8
    refine wpAnyH_ready (rs := [13]) (by kernel_rfl) (by simp) ?_
    refine (AllReadyH.cons (o := ?or_21) ?ir_21 (fun K hK => ?str_21) AllReadyH.nil)
    case ir_21 => simp only [layG]; rfl
    rw [if_pos (by rfl)]
    go_simp
    refine (HF3.out _ _ HW.out HL.out).out.mono ?_
    rintro r w13 ⟨v', rfl, hap⟩
    obtain ⟨g13, c13, rfl⟩ := hap.2.2.2
    go_wp2_with fail
    refine hK.out _ _ ?sr_21 (fun hS => ?_)
    case sr_21 => (exact ⟨hS.1.grown hap.2.1 NE.out.1, hS.2.grown hap.2.1 NE.out.2.1⟩)
    clear hK K
    (try simp only [Act.put, layS])
    have HAP := Lib.hid hap
    clear hap
    refine wpAnyH_take (i := 14) (oi := ?o_22) (v := ?v_22) ?i_22 (by kernel_rfl) (by kernel_rfl) (by kernel_rfl) (fun _ _ _ h => h) (Or.inl ⟨?g_22, ?y_22⟩) hS ?_
    case i_22 => simp only [layG]; rfl
    case g_22 => rfl
    case y_22 => (intro w hSw; (go_simp <;> with_reducible rfl))
    (try simp only [Act.put, layS])
    refine wpAnyH_take (i := 15) (oi := ?o_23) (v := ?v_23) ?i_23 (by kernel_rfl) (by kernel_rfl) (by kernel_rfl) (fun _ _ _ h => h) (Or.inl ⟨?g_23, ?y_23⟩) hS ?_
    case i_23 => simp only [layG]; rfl
    case g_23 => rfl
    case y_23 => (intro w hSw; (go_simp <;> with_reducible rfl))
    (try simp only [Act.put, layS])
    refine wpAnyH_ready (rs := [16]) (by kernel_rfl) (by simp) ?_
    refine (AllReadyH.cons (o := ?or_24) ?ir_24 (fun K hK => ?str_24) AllReadyH.nil)
    case ir_24 => simp only [layG]; rfl
    rw [if_pos (by rfl)]
    have x1 := (HBX.out _ _ _ HW.out HAP.out).1
    have x2 := (HBX.out _ _ _ HW.out HAP.out).2
    go_simp
    refine hK.out _ _ ?sr_24 (fun hS => ?_)
    case sr_24 => (exact ⟨hS.1.far NE.out.2.2.1 _, hS.2.far NE.out.2.2.2 _⟩)
    clear hK K
    (try simp only [Act.put, layS])
    refine wpAnyH_done (by kernel_rfl) ?_ _
    refine NoPanic.normal ?_
 case' str_a =>
  rw [if_pos (by rfl)]
  go_simp
  refine hK.out _ _ ?sr_a (fun hS => ?_)
  case sr_a => (exact ⟨hS.1.alloc _, hS.2.alloc _⟩)
  clear hK K
  (try simp only [Act.put, layS])
  have HL := Lib.hid (Blk.new w 34 #[y0, y1, y2, y3, y4, y5, y6, y7, .slice none 0 0])
  have HB := Lib.hid (Blk.alloc (w := w) HB.out (.cells #[y0, y1, y2, y3, y4, y5, y6, y7, .slice none 0 0] 34))
  have HW : Hid (Below w.heap.size w (w.alloc (.cells #[y0, y1, y2, y3, y4, y5, y6, y7, .slice none 0 0] 34)).drew) := Lib.hid (((Below.refl _ _).alloc (Nat.le_refl _) _).drew)
  refine wpAnyH_ready (rs := [4, 7]) (by kernel_rfl) (by simp) ?_
  refine (AllReadyH.cons (o := ?or_25) ?ir_25 (fun K hK => ?str_25) (AllReadyH.cons (o := ?or_26) ?ir_26 (fun K hK => ?str_26) AllReadyH.nil))
  case ir_25 => simp only [layG]; rfl
  case ir_26 => simp only [layG]; rfl
  case' str_25 =>
   rw [if_pos (by rfl)]
   have c8 := (HB.out.cell 8).trans rfl
   go_simp
   refine hK.out _ _ ?sr_25 (fun hS => ?_)
   case sr_25 => (exact hS)
   clear hK K
   (try simp only [Act.put, layS])
   clear c8
   refine wpAnyH_ready (rs := [7]) (by kernel_rfl) (by simp) ?_
   refine (AllReadyH.cons (o := ?or_27) ?ir_27 (fun K hK => ?str_27) AllReadyH.nil)
   case ir_27 => simp only [layG]; rfl
   rw [if_pos (by rfl)]
   have c0 := (HB.out.cell 0).trans rfl
   have c1 := (HB.out.cell 1).trans rfl
   have c2 := (HB.out.cell 2).trans rfl
   have c3 := (HB.out.cell 3).trans rfl
   have c4 := (HB.out.cell 4).trans rfl
   have c5 := (HB.out.cell 5).trans rfl
   have c6 := (HB.out.cell 6).trans rfl
   have c7 := (HB.out.cell 7).trans rfl
   have c8 := (HB.out.cell 8).trans rfl
   go_simp
   refine hK.out _ _ ?sr_27 (fun hS => ?_)
   case sr_27 => (exact hS)
   clear hK K
   (try simp only [Act.put, layS])
   clear c0 c1 c2 c3 c4 c5 c6 c7 c8
   refine wpAnyH_ready (rs := [9]) (by kernel_rfl) (by simp) ?_
   refine (AllReadyH.cons (o := ?or_28) ?ir_28 (fun K hK => ?str_28) AllReadyH.nil)
   case ir_28 => simp only [layG]; rfl
   rw [if_pos (by rfl)]
   go_simp
   refine (HF2.out _ HW.out).out.mono ?_
   rintro r w9 ⟨rfl, hb9⟩
   go_wp2_with fail
   refine hK.out _ _ ?sr_28 (fun hS => ?_)
   case sr_28 => (exact ⟨hS.1.below hb9 hS.1.lt, hS.2.below hb9 hS.2.lt⟩)
   clear hK K
   (try simp only [Act.put, layS])
   have HB := Lib.hid (HB.out.later hb9 rfl)
   have HL := Lib.hid (HL.out.later hb9 rfl)
   have HW := Lib.hid (HW.out.trans (hb9.mono HW.out.size))
   clear hb9
   refine wpAnyH_take (i := 10) (oi := ?o_29) (v := ?v_29) ?i_29 (by kernel_rfl) (by kernel_rfl) (by kernel_rfl) (fun _ _ _ h => h) (Or.inl ⟨?g_29, ?y_29⟩) hS ?_
   case i_29 => simp only [layG]; rfl
   case g_29 => rfl
   case y_29 => (intro w hSw; have hc := HS0.out; (go_simp <;> with_reducible rfl))
   (try simp only [Act.put, layS])
   refine wpAnyH_ready (rs := [13]) (by kernel_rfl) (by simp) ?_
   refine (AllReadyH.cons (o := ?or_2a) ?ir_2a (fun K hK => ?str_2a) AllReadyH.nil)
   case ir_2a => simp only [layG]; rfl
   rw [if_pos (by rfl)]
   go_simp
   refine (HF3.out _ _ HW.out HL.out).out.mono ?_
   rintro r w13 ⟨v', rfl, hap⟩
   obtain ⟨g13, c13, rfl⟩ := hap.2.2.2
   go_wp2_with fail
   refine hK.out _ _ ?sr_2a (fun hS => ?_)
   case sr_2a => (exact ⟨hS.1.grown hap.2.1 NE.out.1, hS.2.grown hap.2.1 NE.out.2.1⟩)
   clear hK K
   (try simp only [Act.put, layS])
   have HAP := Lib.hid hap
   clear hap
   refine wpAnyH_take (i := 14) (oi := ?o_2b) (v := ?v_2b) ?i_2b (by kernel_rfl) (by kernel_rfl) (by kernel_rfl) (fun _ _ _ h => h) (Or.inl ⟨?g_2b, ?y_2b⟩) hS ?_
   case i_2b => simp only [layG]; rfl
   case g_2b => rfl
   case y_2b => (intro w hSw; (go_simp <;> with_reducible rfl))
   (try simp only [Act.put, layS])
   refine wpAnyH_take (i := 15) (oi := ?o_2c) (v := ?v_2c) ?i_2c (by kernel_rfl) (by kernel_rfl) (by kernel_rfl) (fun _ _ _ h => h) (Or.inl ⟨?g_2c, ?y_2c⟩) hS ?_
   case i_2c => simp only [layG]; rfl
   case g_2c => rfl
   case y_2c => (intro w hSw; (go_simp <;> with_reducible rfl))
   (try simp only [Act.put, layS])
   refine wpAnyH_ready (rs := [16]) (by kernel_rfl) (by simp) ?_
   refine (AllReadyH.cons (o := ?or_2d) ?ir_2d (fun K hK => ?str_2d) AllReadyH.nil)
   case ir_2d => simp only [layG]; rfl
   rw [if_pos (by rfl)]
   have x1 := (HBX.out _ _ _ HW.out HAP.out).1
   have x2 := (HBX.out _ _ _ HW.out HAP.out).2
   go_simp
   refine hK.out _ _ ?sr_2d (fun hS => ?_)
   case sr_2d => (exact ⟨hS.1.far NE.out.2.2.1 _, hS.2.far NE.out.2.2.2 _⟩)
   clear hK K
   (try simp only [Act.put, layS])
   refine wpAnyH_done (by kernel_rfl) ?_ _
   refine NoPanic.normal ?_
  case' str_26 =>
   rw [if_pos (by rfl)]
   have c0 := (HB.out.cell 0).trans rfl
   have c1 := (HB.out.cell 1).trans rfl
   have c2 := (HB.out.cell 2).trans rfl
   have c3 := (HB.out.cell 3).trans rfl
   have c4 := (HB.out.cell 4).trans rfl
   have c5 := (HB.out.cell 5).trans rfl
   have c6 := (HB.out.cell 6).trans rfl
   have c7 := (HB.out.cell 7).trans rfl
   have c8 := (HB.out.cell 8).trans rfl
   go_simp
   refine hK.out _ _ ?sr_26 (fun hS => ?_)
   case sr_26 => (exact hS)
   clear hK K
   (try simp only [Act.put, layS])
   clear c0 c1 c2 c3 c4 c5 c6 c7 c8
   refine wpAnyH_ready (rs := [4, 9]) (by kernel_rfl) (by simp) ?_
   refine (AllReadyH.cons (o := ?or_2e) ?ir_2e (fun K hK => ?str_2e) (AllReadyH.cons (o := ?or_2f) ?ir_2f (fun K hK => ?str_2f) AllReadyH.nil))
   case ir_2e => simp only [layG]; rfl
   case ir_2f => simp only [layG]; rfl
   case' str_2e =>
    rw [if_pos (by rfl)]
    have c8 := (HB.out.cell 8).trans rfl
    go_simp
    refine hK.out _ _ ?sr_2e (fun hS => ?_)
    case sr_2e => (exact hS)
    clear hK K
    (try simp only [Act.put, layS])
    clear c8
    refine wpAnyH_ready (rs := [9]) (by kernel_rfl) (by simp) ?_
    refine (AllReadyH.cons (o := ?or_2g) ?ir_2g (fun K hK => ?str_2g) AllReadyH.nil)
    case ir_2g => simp only [layG]; rfl
    rw [if_pos (by rfl)]
    go_simp
    refine (HF2.out _ HW.out).out.mono ?_
    rintro r w9 ⟨rfl, hb9⟩
    go_wp2_with fail
    refine hK.out _ _ ?sr_2g (fun hS => ?_)
    case sr_2g => (exact ⟨hS.1.below hb9 hS.1.lt, hS.2.below hb9 hS.2.lt⟩)
    clear hK K
    (try simp only [Act.put, layS])
    have HB := Lib.hid (HB.out.later hb9 rfl)
    have HL := Lib.hid (HL.out.later hb9 rfl)
    have HW := Lib.hid (HW.out.trans (hb9.mono HW.out.size))
    clear hb9
    refine wpAnyH_take (i := 10) (oi := ?o_2h) (v := ?v_2h) ?i_2h (by kernel_rfl) (by kernel_rfl) (by kernel_rfl) (fun _ _ _ h => h) (Or.inl ⟨?g_2h, ?y_2h⟩) hS ?_
    case i_2h => simp only [layG]; rfl
    case g_2h => rfl
    case y_2h => (intro w hSw; have hc := HS0.out; (go_simp <;> with_reducible rfl))
    (try simp only [Act.put, layS])
    refine wpAnyH_ready (rs := [13]) (by kernel_rfl) (by simp) ?_
    refine (AllReadyH.cons (o := ?or_2i) ?ir_2i (fun K hK => ?str_2i) AllReadyH.nil)
    case ir_2i => simp only [layG]; rfl
    rw [if_pos (by rfl)]
    go_simp
    refine (HF3.out _ _ HW.out HL.out).out.mono ?_
    rintro r w13 ⟨v', rfl, hap⟩
    obtain ⟨g13, c13, rfl⟩ := hap.2.2.2
    go_wp2_with fail
    refine hK.out _ _ ?sr_2i (fun hS => ?_)
    case sr_2i => (exact ⟨hS.1.grown hap.2.1 NE.out.1, hS.2.grown hap.2.1 NE.out.2.1⟩)
    clear hK K
    (try simp only [Act.put, layS])
    have HAP := Lib.hid hap
    clear hap
    refine wpAnyH_take (i := 14) (oi := ?o_2j) (v := ?v_2j) ?i_2j (by kernel_rfl) (by kernel_rfl) (by kernel_rfl) (fun _ _ _ h => h) (Or.inl ⟨?g_2j, ?y_2j⟩) hS ?_
    case i_2j => simp only [layG]; rfl
    case g_2j => rfl
    case y_2j => (intro w hSw; (go_simp <;> with_reducible rfl))
    (try simp only [Act.put, layS])
    refine wpAnyH_take (i := 15) (oi := ?o_2k) (v := ?v_2k) ?i_2k (by kernel_rfl) (by kernel_rfl) (by kernel_rfl) (fun _ _ _ h => h) (Or.inl ⟨?g_2k, ?y_2k⟩) hS ?_
    case i_2k => simp only [layG]; rfl
    case g_2k => rfl
    case y_2k => (intro w hSw; (go_simp <;> with_reducible rfl))
    (try simp only [Act.put, layS])
    refine wpAnyH_ready (rs := [16]) (by kernel_rfl) (by simp) ?_
    refine (AllReadyH.cons (o := ?or_2l) ?ir_2l (fun K hK => ?str_2l) AllReadyH.nil)
    case ir_2l => simp only [layG]; rfl
    rw [if_pos (by rfl)]
    have x1 := (HBX.out _ _ _ HW.out HAP.out).1
    have x2 := (HBX.out _ _ _ HW.out HAP.out).2
    go_simp
    refine hK.out _ _ ?sr_2l (fun hS => ?_)
    case sr_2l => (exact ⟨hS.1.far NE.out.2.2.1 _, hS.2.far NE.out.2.2.2 _⟩)
    clear hK K
    (try simp only [Act.put, layS])
    refine wpAnyH_done (by kernel_rfl) ?_ _
    refine NoPanic.normal ?_
   case' str_2f =>
    rw [if_pos (by rfl)]
    go_simp
    refine (HF2.out _ HW.out).out.mono ?_
    rintro r w9 ⟨rfl, hb9⟩
    go_wp2_with fail
    refine hK.out _ _ ?sr_2f (fun hS => ?_)
    case sr_2f => (exact ⟨hS.1.below hb9 hS.1.lt, hS.2.below hb9 hS.2.lt⟩)
    clear hK K
    (try simp only [Act.put, layS])
    have HB := Lib.hid (HB.out.later hb9 rfl)
    have HL := Lib.hid (HL.out.later hb9 rfl)
    have HW := Lib.hid (HW.out.trans (hb9.mono HW.out.size))
    clear hb9
    refine wpAnyH_take (i := 10) (oi := ?o_2m) (v := ?v_2m) ?i_2m (by kernel_rfl) (by kernel_rfl) (by kernel_rfl) (fun _ _ _ h => h) (Or.inl ⟨?g_2m, ?y_2m⟩) hS ?_
    case i_2m => simp only [layG]; rfl
    case g_2m => rfl
    case y_2m => (intro w hSw; have hc := HS0.out; (go_simp <;> with_reducible rfl))
    (try simp only [Act.put, layS])
    refine wpAnyH_ready (rs := [4]) (by kernel_rfl) (by simp) ?_
    refine (AllReadyH.cons (o := ?or_2n) ?ir_2n (fun K hK => ?str_2n) AllReadyH.nil)
    case ir_2n => simp only [layG]; rfl
    rw [if_pos (by rfl)]
    have c8 := (HB.out.cell 8).trans rfl
    go_simp
    refine hK.out _ _ ?sr_2n (fun hS => ?_)
    case sr_2n => (exact hS)
    clear hK K
    (try simp only [Act.put, layS])
    clear c8
    refine wpAnyH_ready (rs := [13]) (by kernel_rfl) (by simp) ?_
    refine (AllReadyH.cons (o := ?or_2o) ?ir_2o (fun K hK => ?str_2o) AllReadyH.nil)
    case ir_2o => simp only [layG]; rfl
    rw [if_pos (by rfl)]
    go_simp
    refine (HF3.out _ _ HW.out HL.out).out.mono ?_
    rintro r w13 ⟨v', rfl, hap⟩
    obtain ⟨g13, c13, rfl⟩ := hap.2.2.2
    go_wp2_with fail
    refine hK.out _ _ ?sr_2o (fun hS => ?_)
    case sr_2o => (exact ⟨hS.1.grown hap.2.1 NE.out.1, hS.2.grown hap.2.1 NE.out.2.1⟩)
    clear hK K
    (try simp only [Act.put, layS])
    have HAP := Lib.hid hap
    clear hap
    refine wpAnyH_take (i := 14) (oi := ?o_2p) (v := ?v_2p) ?i_2p (by kernel_rfl) (by kernel_rfl) (by kernel_rfl) (fun _ _ _ h => h) (Or.inl ⟨?g_2p, ?y_2p⟩) hS ?_
    case i_2p => simp only [layG]; rfl
    case g_2p => rfl
    case y_2p => (intro w hSw; (go_simp <;> with_reducible rfl))
    (try simp only [Act.put, layS])
    refine wpAnyH_take (i := 15) (oi := ?o_2q) (v := ?v_2q) ?i_2q (by kernel_rfl) (by kernel_rfl) (by kernel_rfl) (fun _ _ _ h => h) (Or.inl ⟨?g_2q, ?y_2q⟩) hS ?_
    case i_2q => simp only [layG]; rfl
    case g_2q => rfl
    case y_2q => (intro w hSw; (go_simp <;> with_reducible rfl))
    (try simp only [Act.put, layS])
    refine wpAnyH_ready (rs := [16]) (by kernel_rfl) (by simp) ?_
    refine (AllReadyH.cons (o := ?or_2r) ?ir_2r (fun K hK => ?str_2r) AllReadyH.nil)
    case ir_2r => simp only [layG]; rfl
    rw [if_pos (by rfl)]
    have x1 := (HBX.out _ _ _ HW.out HAP.out).1
    have x2 := (HBX.out _ _ _ HW.out HAP.out).2
    go_simp
    refine hK.out _ _ ?sr_2r (fun hS => ?_)
    case sr_2r => (exact ⟨hS.1.far NE.out.2.2.1 _, hS.2.far NE.out.2.2.2 _⟩)
    clear hK K
    (try simp only [Act.put, layS])
    refine wpAnyH_done (by kernel_rfl) ?_ _
    refine NoPanic.normal ?_
 all_goals (go_end0; exact (HF1.out _ _ _ HW.out HAP.out).out)
end Go.Proofs.YtikmilcdibldhaaDoor
