/- SpvFnE -/
import Derived.Test.YtodlhgflfcadmaaGreatUM23
set_option linter.unusedSimpArgs false
set_option linter.unusedVariables false
set_option maxRecDepth 100000
set_option maxHeartbeats 8000000
namespace Go.Proofs.YtodlhgflfcadmaaGreat
open Go.RowKit
theorem Blk.later {w0 w w' : World} {g : Nat} {t : TypeId} {cs : Array Value} (h : Blk w0 g t cs) (hb : Below w.heap.size w w') (e : w.heap = w0.heap) : Blk w' g t cs := by
 have h2 : Blk w g t cs := by unfold Blk at h ⊢; rw [e]; exact h
 exact h2.below hb h2.lt
theorem add_find {n : List UInt8} {f : SpF} {i : Nat} (h : findX n f = some i) : findI n f = (i : Int) := by unfold findI; rw [h]
theorem after1_any (n : List UInt8) (d : SpD) (base B p q : Nat) (R : Nat → Prop) (F : List Nat) (cs lc : List Value) (x : Sp) (w : World) (h : Sit w base R B F cs x) (hp : Blk w p 9 #[.string (txt n)]) (hq : Blk w q 61 lc.toArray)
  (hld : SpcD w R lc d) (hl8 : lc[8]? = some (.slice none 0 0)) (hRp : R p) (hRq : R q) (hRl : ∀ g, R g → g < w.heap.size) (i : Nat) (hfi : findX n x.2 = some i) (hil : i + 1 = x.2.len) (hfew : x.2.len ≤ 100) :
  Calls Tryz.prog 97 #[.pointer (some ⟨B, 0, none⟩), .pointer (some ⟨p, 0, none⟩), .pointer (some ⟨q, 0, none⟩)] w (ChgP base R B F (x.1, x.2.app (.cons d .nil .nil)) w) := by
 obtain ⟨box, own, nd, rlt, hb⟩ := h
 have hspn := own.spn
 have hFl := own.lt
 obtain ⟨v, h1, hD, h5, zs, F0, rfl, hk, ht⟩ := own
 obtain ⟨Bn, m, A, c, dn, rfl, -, -, -⟩ := hspn.shape
 simp at h5
 subst h5
 obtain ⟨b, rfl⟩ : ∃ b, A = some ⟨b, 0, none⟩ := by
  rcases hk.2 with ⟨_, h0⟩ | ⟨g, cap, cur, e, _⟩
  ·omega
  ·injection e with e; exact ⟨g, e⟩
 obtain ⟨y0, y1, y2, y3, y4, y5, y6, y7, rfl⟩ : ∃ y0 y1 y2 y3 y4 y5 y6 y7, lc = [y0, y1, y2, y3, y4, y5, y6, y7, .slice none 0 0] := by
  obtain ⟨nv, kv, dd, e, _⟩ := hld
  subst e
  simp at hl8
  subst hl8
  exact ⟨_, _, _, _, _, _, _, _, rfl⟩
 have hBl := box.lt
 have hpB : p ≠ B := (rlt p hRp).2.1
 have hqB : q ≠ B := (rlt q hRq).2.1
 have hpb : some p ≠ (Value.slice (some ⟨b, 0, none⟩) x.2.len c).ownBlock := fun e => (rlt p hRp).2.2 (by rw [← e]; simp)
 have hqb : some q ≠ (Value.slice (some ⟨b, 0, none⟩) x.2.len c).ownBlock := fun e => (rlt q hRq).2.2 (by rw [← e]; simp)
 have hbB : b ≠ B := fun e => by simp [Value.ownBlock, e] at nd
 have hbase : base ≤ w.heap.size := by omega
 -- what is kept through the region
 have HFIN : ∀ (wa w3 : World) (v' : Value), Below w.heap.size w wa → AppK 61 9 wa base (.slice (some ⟨b, 0, none⟩) x.2.len c) (x.2.len + 1) (zs ++ [y0, y1, y2, y3, y4, y5, y6, y7, .slice none 0 0]) v' w3 → Hid (ChgP base R B ((Value.slice (some ⟨b, 0, none⟩) x.2.len c).ownBlock.toList ++ F0) (x.1, x.2.app (.cons d .nil .nil)) w (.returned (.tuple #[])) (w3.setCell ⟨B, 8, none⟩ v')) := fun wa w3 v' h1 h2 =>
  hHd ⟨rfl, _, after_sit (hd := [.string (txt x.1.name), .int .i64 (x.1.kind : Int), .int .i64 (x.1.typ : Int), .int .u64 (x.1.low : Int), .int .u64 (x.1.high : Int), .slice Bn x.1.names.length m, .bool x.1.must, .int .i64 (x.1.most : Int)]) box rfl hD hk ht nd rlt hb h1 h2 hld hl8⟩
 have HFI : ∀ W, Below w.heap.size w W → Hid (Calls Tryz.prog 96 #[.agg (cS (txt x.1.name) x.1.kind x.1.typ x.1.low x.1.high (.slice Bn x.1.names.length m) x.1.must x.1.most (.slice (some ⟨b, 0, none⟩) x.2.len c)), .string (txt n)] W (fun r w' => r = .returned (.int .i64 (i : Int)) ∧ Below W.heap.size W w')) := fun W hW => hHd (by
  have hF := sfind_any n _ _ _ x W (hspn.kept stay_spc (fun g hg => hW.block g (hFl g hg)) (fun _ h => h) (fun g hg => hW.block g (hRl g hg)) (fun _ h => h)) (fun g hg => Nat.lt_of_lt_of_le (hFl g hg) hW.size) (fun g hg => Nat.lt_of_lt_of_le (hRl g hg) hW.size) (by omega)
  rw [add_find hfi] at hF
  exact hF)
 have HIN : ∀ (W : World) (g : Nat), Below w.heap.size w W → Blk W g 61 #[y0, y1, y2, y3, y4, y5, y6, y7, .slice none 0 0] → Hid (Calls Tryz.prog 98 #[.slice (some ⟨b, 0, none⟩) x.2.len c, .int .i64 ((i : Int) + 1), .slice (some ⟨g, 0, none⟩) 1 1] W (fun r w' => ∃ v', r = .returned v' ∧ AppK 61 9 W base (.slice (some ⟨b, 0, none⟩) x.2.len c) (x.2.len + 1) (zs ++ [y0, y1, y2, y3, y4, y5, y6, y7, .slice none 0 0]) v' w')) := fun W g hW hg => hHd (by
  have hI := sins_any b c x.2.len g base zs _ W (hk.keep (fun g hg => hW.block g (hk.fresh hg).lt)) hg rfl hld.oneC (by omega) (Nat.le_trans hbase hW.size)
  rw [show ((x.2.len : Nat) : Int) = (i : Int) + 1 by omega] at hI
  exact hI)
 have HBX : Hid (∀ (wa w3 : World) (v' : Value), Below w.heap.size w wa → AppK 61 9 wa base (.slice (some ⟨b, 0, none⟩) x.2.len c) (x.2.len + 1) (zs ++ [y0, y1, y2, y3, y4, y5, y6, y7, .slice none 0 0]) v' w3 → w3.cell? ⟨B, 8, none⟩ = some (.slice (some ⟨b, 0, none⟩) x.2.len c) ∧ w3.frozen? ⟨B, 8, none⟩ = false) := hHd (fun wa w3 v' h1 h2 => by
  have hx := (box.below h1 hBl).grown h2.2.1 (fun e => hbB (by injection e with e; exact e.symm))
  exact ⟨hx.cell 8, hx.frozen 8⟩)
 have HF1 := hHd HFIN
 have HF2 := hHd HFI
 have HF3 := hHd HIN
 have HB : Hid (Blk w.drew B 61 (cS (txt x.1.name) x.1.kind x.1.typ x.1.low x.1.high (.slice Bn x.1.names.length m) x.1.must x.1.most (.slice (some ⟨b, 0, none⟩) x.2.len c))) := hHd box
 have HP : Hid (Blk w.drew p 9 #[.string (txt n)]) := hHd hp
 have HQ : Hid (Blk w.drew q 61 #[y0, y1, y2, y3, y4, y5, y6, y7, .slice none 0 0]) := hHd hq
 have HW : Hid (Below w.heap.size w w.drew) := hHd (Below.refl _ _).drew
 have s0 : IntKind.i64.wrap ((i : Int) + 1) = (i : Int) + 1 := IntWalk.i64_in _ (by omega)
 have HS0 := hHd s0
 have NE := hHd (And.intro hpb (And.intro hqb (And.intro hpB hqB)))
 clear HFIN HFI HIN hp hq hspn hFl h1 hD hk ht nd rlt hld hl8 hRl hfi hil hfew hb hbB hbase hBl box s0 hRp hRq hpb hqb hpB hqB
 go_enter Tryz.func97, Tryz.ntmps97
 refine wp_region_noPanic ?_
 refine wp_region_held_drew (S := fun _ => True) (by kernel_rfl) trivial (fun hS => ?_)
 refine tkH 0 hS ?_
 refine tkH 1 hS ?_
 refine tkH 2 hS ?_
 refine tkH 3 hS ?_
 refine tkH 5 hS ?_
 refine tkH 6 hS ?_
 refine held_more (S' := fun w' => Blk w' p 9 #[.string (txt n)] ∧ Blk w' q 61 #[y0, y1, y2, y3, y4, y5, y6, y7, .slice none 0 0]) (fun _ _ => trivial) _ _ _ _ ?_
 replace hS := And.intro HP.out HQ.out
 refine tkH 8 hS ?_ (hy := fun w hSw => by have hc := (hSw.1.cell 0).trans rfl; (go_simp <;> with_reducible rfl))
 refine tkH 11 hS ?_ (hy := fun w hSw => by obtain ⟨c0, c1, c2, c3, c4, c5, c6, c7, c8⟩ := cl9 hSw.2; (go_simp <;> with_reducible rfl))
 refine rdy [4, 7, 12] (rdC (fun K hK => ?str_0) (rdC (fun K hK => ?str_1) (rdC (fun K hK => ?str_2) .nil)))
 case' str_0 =>
  have c8 := (HB.out.cell 8).trans rfl
  go_simp
  refine hK.out _ _ ?sr_0 (fun hS => ?_)
  case sr_0 => (exact hS)
  clear hK K
  (try simp only [Act.put, layS])
  clear c8
  refine rdy [7, 12] (rdC (fun K hK => ?str_3) (rdC (fun K hK => ?str_4) .nil))
  case' str_3 =>
   obtain ⟨c0, c1, c2, c3, c4, c5, c6, c7, c8⟩ := cl9 HB.out
   go_simp
   refine hK.out _ _ ?sr_3 (fun hS => ?_)
   case sr_3 => (exact hS)
   clear hK K
   (try simp only [Act.put, layS])
   clear c0 c1 c2 c3 c4 c5 c6 c7 c8
   refine rdy [9, 12] (rdC (fun K hK => ?str_5) (rdC (fun K hK => ?str_6) .nil))
   case' str_5 =>
    go_simp
    refine (HF2.out _ HW.out).out.mono ?_
    rintro r w9 ⟨rfl, hb9⟩
    go_wp2_with fail
    refine hK.out _ _ ?sr_5 (fun hS => ?_)
    case sr_5 => (exact ⟨hS.1.below hb9 hS.1.lt, hS.2.below hb9 hS.2.lt⟩)
    clear hK K
    (try simp only [Act.put, layS])
    have HB := hHd (HB.out.later hb9 rfl)
    have HW := hHd (HW.out.trans (hb9.mono HW.out.size))
    clear hb9
    refine tkH 10 hS ?_ (hy := fun w hSw => by have hc := HS0.out; (go_simp <;> with_reducible rfl))
    refine rdy1 12 fun K hK => ?_
    go_simp
    refine hK.out _ _ ?sr_7 (fun hS => ?_)
    case sr_7 => (exact ⟨hS.1.alloc _, hS.2.alloc _⟩)
    clear hK K
    (try simp only [Act.put, layS])
    have HL := hHd (Blk.new w9 61 #[y0, y1, y2, y3, y4, y5, y6, y7, .slice none 0 0])
    have HB := hHd (HB.out.alloc (.cells #[y0, y1, y2, y3, y4, y5, y6, y7, .slice none 0 0] 61))
    have HW := hHd (HW.out.alloc HW.out.size (.cells #[y0, y1, y2, y3, y4, y5, y6, y7, .slice none 0 0] 61))
    refine rdy1 13 fun K hK => ?_
    go_simp
    refine (HF3.out _ _ HW.out HL.out).out.mono ?_
    rintro r w13 ⟨v', rfl, hap⟩
    obtain ⟨g13, c13, rfl⟩ := hap.2.2.2
    go_wp2_with fail
    refine hK.out _ _ ?sr_8 (fun hS => ?_)
    case sr_8 => (exact ⟨hS.1.grown hap.2.1 NE.out.1, hS.2.grown hap.2.1 NE.out.2.1⟩)
    clear hK K
    (try simp only [Act.put, layS])
    have HAP := hHd hap
    clear hap
    refine tkH 14 hS ?_
    refine tkH 15 hS ?_
    refine rdy1 16 fun K hK => ?_
    have x1 := (HBX.out _ _ _ HW.out HAP.out).1
    have x2 := (HBX.out _ _ _ HW.out HAP.out).2
    go_simp
    refine hK.out _ _ ?sr_9 (fun hS => ?_)
    case sr_9 => (exact ⟨hS.1.far NE.out.2.2.1 _, hS.2.far NE.out.2.2.2 _⟩)
    clear hK K
    (try simp only [Act.put, layS])
    refine wpAnyH_done (by kernel_rfl) ?_ _
    refine NoPanic.normal ?_
   case' str_6 =>
    go_simp
    refine hK.out _ _ ?sr_6 (fun hS => ?_)
    case sr_6 => (exact ⟨hS.1.alloc _, hS.2.alloc _⟩)
    clear hK K
    (try simp only [Act.put, layS])
    have HL := hHd (Blk.new w 61 #[y0, y1, y2, y3, y4, y5, y6, y7, .slice none 0 0])
    have HB := hHd (Blk.alloc (w := w) HB.out (.cells #[y0, y1, y2, y3, y4, y5, y6, y7, .slice none 0 0] 61))
    have HW : Hid (Below w.heap.size w (w.alloc (.cells #[y0, y1, y2, y3, y4, y5, y6, y7, .slice none 0 0] 61)).drew) := hHd (bAl.drew)
    refine rdy1 9 fun K hK => ?_
    go_simp
    refine (HF2.out _ HW.out).out.mono ?_
    rintro r w9 ⟨rfl, hb9⟩
    go_wp2_with fail
    refine hK.out _ _ ?sr_a (fun hS => ?_)
    case sr_a => (exact ⟨hS.1.below hb9 hS.1.lt, hS.2.below hb9 hS.2.lt⟩)
    clear hK K
    (try simp only [Act.put, layS])
    have HB := hHd (HB.out.later hb9 rfl)
    have HL := hHd (HL.out.later hb9 rfl)
    have HW := hHd (HW.out.trans (hb9.mono HW.out.size))
    clear hb9
    refine tkH 10 hS ?_ (hy := fun w hSw => by have hc := HS0.out; (go_simp <;> with_reducible rfl))
    refine rdy1 13 fun K hK => ?_
    go_simp
    refine (HF3.out _ _ HW.out HL.out).out.mono ?_
    rintro r w13 ⟨v', rfl, hap⟩
    obtain ⟨g13, c13, rfl⟩ := hap.2.2.2
    go_wp2_with fail
    refine hK.out _ _ ?sr_b (fun hS => ?_)
    case sr_b => (exact ⟨hS.1.grown hap.2.1 NE.out.1, hS.2.grown hap.2.1 NE.out.2.1⟩)
    clear hK K
    (try simp only [Act.put, layS])
    have HAP := hHd hap
    clear hap
    refine tkH 14 hS ?_
    refine tkH 15 hS ?_
    refine rdy1 16 fun K hK => ?_
    have x1 := (HBX.out _ _ _ HW.out HAP.out).1
    have x2 := (HBX.out _ _ _ HW.out HAP.out).2
    go_simp
    refine hK.out _ _ ?sr_c (fun hS => ?_)
    case sr_c => (exact ⟨hS.1.far NE.out.2.2.1 _, hS.2.far NE.out.2.2.2 _⟩)
    clear hK K
    (try simp only [Act.put, layS])
    refine wpAnyH_done (by kernel_rfl) ?_ _
    refine NoPanic.normal ?_
  case' str_4 =>
   go_simp
   refine hK.out _ _ ?sr_4 (fun hS => ?_)
   case sr_4 => (exact ⟨hS.1.alloc _, hS.2.alloc _⟩)
   clear hK K
   (try simp only [Act.put, layS])
   have HL := hHd (Blk.new w 61 #[y0, y1, y2, y3, y4, y5, y6, y7, .slice none 0 0])
   have HB := hHd (Blk.alloc (w := w) HB.out (.cells #[y0, y1, y2, y3, y4, y5, y6, y7, .slice none 0 0] 61))
   have HW : Hid (Below w.heap.size w (w.alloc (.cells #[y0, y1, y2, y3, y4, y5, y6, y7, .slice none 0 0] 61)).drew) := hHd (bAl.drew)
   refine rdy1 7 fun K hK => ?_
   obtain ⟨c0, c1, c2, c3, c4, c5, c6, c7, c8⟩ := cl9 HB.out
   go_simp
   refine hK.out _ _ ?sr_d (fun hS => ?_)
   case sr_d => (exact hS)
   clear hK K
   (try simp only [Act.put, layS])
   clear c0 c1 c2 c3 c4 c5 c6 c7 c8
   refine rdy1 9 fun K hK => ?_
   go_simp
   refine (HF2.out _ HW.out).out.mono ?_
   rintro r w9 ⟨rfl, hb9⟩
   go_wp2_with fail
   refine hK.out _ _ ?sr_e (fun hS => ?_)
   case sr_e => (exact ⟨hS.1.below hb9 hS.1.lt, hS.2.below hb9 hS.2.lt⟩)
   clear hK K
   (try simp only [Act.put, layS])
   have HB := hHd (HB.out.later hb9 rfl)
   have HL := hHd (HL.out.later hb9 rfl)
   have HW := hHd (HW.out.trans (hb9.mono HW.out.size))
   clear hb9
   refine tkH 10 hS ?_ (hy := fun w hSw => by have hc := HS0.out; (go_simp <;> with_reducible rfl))
   refine rdy1 13 fun K hK => ?_
   go_simp
   refine (HF3.out _ _ HW.out HL.out).out.mono ?_
   rintro r w13 ⟨v', rfl, hap⟩
   obtain ⟨g13, c13, rfl⟩ := hap.2.2.2
   go_wp2_with fail
   refine hK.out _ _ ?sr_f (fun hS => ?_)
   case sr_f => (exact ⟨hS.1.grown hap.2.1 NE.out.1, hS.2.grown hap.2.1 NE.out.2.1⟩)
   clear hK K
   (try simp only [Act.put, layS])
   have HAP := hHd hap
   clear hap
   refine tkH 14 hS ?_
   refine tkH 15 hS ?_
   refine rdy1 16 fun K hK => ?_
   have x1 := (HBX.out _ _ _ HW.out HAP.out).1
   have x2 := (HBX.out _ _ _ HW.out HAP.out).2
   go_simp
   refine hK.out _ _ ?sr_g (fun hS => ?_)
   case sr_g => (exact ⟨hS.1.far NE.out.2.2.1 _, hS.2.far NE.out.2.2.2 _⟩)
   clear hK K
   (try simp only [Act.put, layS])
   refine wpAnyH_done (by kernel_rfl) ?_ _
   refine NoPanic.normal ?_
 case' str_1 =>
  obtain ⟨c0, c1, c2, c3, c4, c5, c6, c7, c8⟩ := cl9 HB.out
  go_simp
  refine hK.out _ _ ?sr_1 (fun hS => ?_)
  case sr_1 => (exact hS)
  clear hK K
  (try simp only [Act.put, layS])
  clear c0 c1 c2 c3 c4 c5 c6 c7 c8
  refine rdy [4, 9, 12] (rdC (fun K hK => ?str_h) (rdC (fun K hK => ?str_i) (rdC (fun K hK => ?str_j) .nil)))
  case' str_h =>
   have c8 := (HB.out.cell 8).trans rfl
   go_simp
   refine hK.out _ _ ?sr_h (fun hS => ?_)
   case sr_h => (exact hS)
   clear hK K
   (try simp only [Act.put, layS])
   clear c8
   refine rdy [9, 12] (rdC (fun K hK => ?str_k) (rdC (fun K hK => ?str_l) .nil))
   case' str_k =>
    go_simp
    refine (HF2.out _ HW.out).out.mono ?_
    rintro r w9 ⟨rfl, hb9⟩
    go_wp2_with fail
    refine hK.out _ _ ?sr_k (fun hS => ?_)
    case sr_k => (exact ⟨hS.1.below hb9 hS.1.lt, hS.2.below hb9 hS.2.lt⟩)
    clear hK K
    (try simp only [Act.put, layS])
    have HB := hHd (HB.out.later hb9 rfl)
    have HW := hHd (HW.out.trans (hb9.mono HW.out.size))
    clear hb9
    refine tkH 10 hS ?_ (hy := fun w hSw => by have hc := HS0.out; (go_simp <;> with_reducible rfl))
    refine rdy1 12 fun K hK => ?_
    go_simp
    refine hK.out _ _ ?sr_m (fun hS => ?_)
    case sr_m => (exact ⟨hS.1.alloc _, hS.2.alloc _⟩)
    clear hK K
    (try simp only [Act.put, layS])
    have HL := hHd (Blk.new w9 61 #[y0, y1, y2, y3, y4, y5, y6, y7, .slice none 0 0])
    have HB := hHd (HB.out.alloc (.cells #[y0, y1, y2, y3, y4, y5, y6, y7, .slice none 0 0] 61))
    have HW := hHd (HW.out.alloc HW.out.size (.cells #[y0, y1, y2, y3, y4, y5, y6, y7, .slice none 0 0] 61))
    refine rdy1 13 fun K hK => ?_
    go_simp
    refine (HF3.out _ _ HW.out HL.out).out.mono ?_
    rintro r w13 ⟨v', rfl, hap⟩
    obtain ⟨g13, c13, rfl⟩ := hap.2.2.2
    go_wp2_with fail
    refine hK.out _ _ ?sr_n (fun hS => ?_)
    case sr_n => (exact ⟨hS.1.grown hap.2.1 NE.out.1, hS.2.grown hap.2.1 NE.out.2.1⟩)
    clear hK K
    (try simp only [Act.put, layS])
    have HAP := hHd hap
    clear hap
    refine tkH 14 hS ?_
    refine tkH 15 hS ?_
    refine rdy1 16 fun K hK => ?_
    have x1 := (HBX.out _ _ _ HW.out HAP.out).1
    have x2 := (HBX.out _ _ _ HW.out HAP.out).2
    go_simp
    refine hK.out _ _ ?sr_o (fun hS => ?_)
    case sr_o => (exact ⟨hS.1.far NE.out.2.2.1 _, hS.2.far NE.out.2.2.2 _⟩)
    clear hK K
    (try simp only [Act.put, layS])
    refine wpAnyH_done (by kernel_rfl) ?_ _
    refine NoPanic.normal ?_
   case' str_l =>
    go_simp
    refine hK.out _ _ ?sr_l (fun hS => ?_)
    case sr_l => (exact ⟨hS.1.alloc _, hS.2.alloc _⟩)
    clear hK K
    (try simp only [Act.put, layS])
    have HL := hHd (Blk.new w 61 #[y0, y1, y2, y3, y4, y5, y6, y7, .slice none 0 0])
    have HB := hHd (Blk.alloc (w := w) HB.out (.cells #[y0, y1, y2, y3, y4, y5, y6, y7, .slice none 0 0] 61))
    have HW : Hid (Below w.heap.size w (w.alloc (.cells #[y0, y1, y2, y3, y4, y5, y6, y7, .slice none 0 0] 61)).drew) := hHd (bAl.drew)
    refine rdy1 9 fun K hK => ?_
    go_simp
    refine (HF2.out _ HW.out).out.mono ?_
    rintro r w9 ⟨rfl, hb9⟩
    go_wp2_with fail
    refine hK.out _ _ ?sr_p (fun hS => ?_)
    case sr_p => (exact ⟨hS.1.below hb9 hS.1.lt, hS.2.below hb9 hS.2.lt⟩)
    clear hK K
    (try simp only [Act.put, layS])
    have HB := hHd (HB.out.later hb9 rfl)
    have HL := hHd (HL.out.later hb9 rfl)
    have HW := hHd (HW.out.trans (hb9.mono HW.out.size))
    clear hb9
    refine tkH 10 hS ?_ (hy := fun w hSw => by have hc := HS0.out; (go_simp <;> with_reducible rfl))
    refine rdy1 13 fun K hK => ?_
    go_simp
    refine (HF3.out _ _ HW.out HL.out).out.mono ?_
    rintro r w13 ⟨v', rfl, hap⟩
    obtain ⟨g13, c13, rfl⟩ := hap.2.2.2
    go_wp2_with fail
    refine hK.out _ _ ?sr_q (fun hS => ?_)
    case sr_q => (exact ⟨hS.1.grown hap.2.1 NE.out.1, hS.2.grown hap.2.1 NE.out.2.1⟩)
    clear hK K
    (try simp only [Act.put, layS])
    have HAP := hHd hap
    clear hap
    refine tkH 14 hS ?_
    refine tkH 15 hS ?_
    refine rdy1 16 fun K hK => ?_
    have x1 := (HBX.out _ _ _ HW.out HAP.out).1
    have x2 := (HBX.out _ _ _ HW.out HAP.out).2
    go_simp
    refine hK.out _ _ ?sr_r (fun hS => ?_)
    case sr_r => (exact ⟨hS.1.far NE.out.2.2.1 _, hS.2.far NE.out.2.2.2 _⟩)
    clear hK K
    (try simp only [Act.put, layS])
    refine wpAnyH_done (by kernel_rfl) ?_ _
    refine NoPanic.normal ?_
  case' str_i =>
   go_simp
   refine (HF2.out _ HW.out).out.mono ?_
   rintro r w9 ⟨rfl, hb9⟩
   go_wp2_with fail
   refine hK.out _ _ ?sr_i (fun hS => ?_)
   case sr_i => (exact ⟨hS.1.below hb9 hS.1.lt, hS.2.below hb9 hS.2.lt⟩)
   clear hK K
   (try simp only [Act.put, layS])
   have HB := hHd (HB.out.later hb9 rfl)
   have HW := hHd (HW.out.trans (hb9.mono HW.out.size))
   clear hb9
   refine tkH 10 hS ?_ (hy := fun w hSw => by have hc := HS0.out; (go_simp <;> with_reducible rfl))
   refine rdy [4, 12] (rdC (fun K hK => ?str_s) (rdC (fun K hK => ?str_t) .nil))
   case' str_s =>
    have c8 := (HB.out.cell 8).trans rfl
    go_simp
    refine hK.out _ _ ?sr_s (fun hS => ?_)
    case sr_s => (exact hS)
    clear hK K
    (try simp only [Act.put, layS])
    clear c8
    refine rdy1 12 fun K hK => ?_
    go_simp
    refine hK.out _ _ ?sr_u (fun hS => ?_)
    case sr_u => (exact ⟨hS.1.alloc _, hS.2.alloc _⟩)
    clear hK K
    (try simp only [Act.put, layS])
    have HL := hHd (Blk.new w9 61 #[y0, y1, y2, y3, y4, y5, y6, y7, .slice none 0 0])
    have HB := hHd (HB.out.alloc (.cells #[y0, y1, y2, y3, y4, y5, y6, y7, .slice none 0 0] 61))
    have HW := hHd (HW.out.alloc HW.out.size (.cells #[y0, y1, y2, y3, y4, y5, y6, y7, .slice none 0 0] 61))
    refine rdy1 13 fun K hK => ?_
    go_simp
    refine (HF3.out _ _ HW.out HL.out).out.mono ?_
    rintro r w13 ⟨v', rfl, hap⟩
    obtain ⟨g13, c13, rfl⟩ := hap.2.2.2
    go_wp2_with fail
    refine hK.out _ _ ?sr_v (fun hS => ?_)
    case sr_v => (exact ⟨hS.1.grown hap.2.1 NE.out.1, hS.2.grown hap.2.1 NE.out.2.1⟩)
    clear hK K
    (try simp only [Act.put, layS])
    have HAP := hHd hap
    clear hap
    refine tkH 14 hS ?_
    refine tkH 15 hS ?_
    refine rdy1 16 fun K hK => ?_
    have x1 := (HBX.out _ _ _ HW.out HAP.out).1
    have x2 := (HBX.out _ _ _ HW.out HAP.out).2
    go_simp
    refine hK.out _ _ ?sr_w (fun hS => ?_)
    case sr_w => (exact ⟨hS.1.far NE.out.2.2.1 _, hS.2.far NE.out.2.2.2 _⟩)
    clear hK K
    (try simp only [Act.put, layS])
    refine wpAnyH_done (by kernel_rfl) ?_ _
    refine NoPanic.normal ?_
   case' str_t =>
    go_simp
    refine hK.out _ _ ?sr_t (fun hS => ?_)
    case sr_t => (exact ⟨hS.1.alloc _, hS.2.alloc _⟩)
    clear hK K
    (try simp only [Act.put, layS])
    have HL := hHd (Blk.new w9 61 #[y0, y1, y2, y3, y4, y5, y6, y7, .slice none 0 0])
    have HB := hHd (HB.out.alloc (.cells #[y0, y1, y2, y3, y4, y5, y6, y7, .slice none 0 0] 61))
    have HW := hHd (HW.out.alloc HW.out.size (.cells #[y0, y1, y2, y3, y4, y5, y6, y7, .slice none 0 0] 61))
    refine rdy1 4 fun K hK => ?_
    have c8 := (HB.out.cell 8).trans rfl
    go_simp
    refine hK.out _ _ ?sr_x (fun hS => ?_)
    case sr_x => (exact hS)
    clear hK K
    (try simp only [Act.put, layS])
    clear c8
    refine rdy1 13 fun K hK => ?_
    go_simp
    refine (HF3.out _ _ HW.out HL.out).out.mono ?_
    rintro r w13 ⟨v', rfl, hap⟩
    obtain ⟨g13, c13, rfl⟩ := hap.2.2.2
    go_wp2_with fail
    refine hK.out _ _ ?sr_y (fun hS => ?_)
    case sr_y => (exact ⟨hS.1.grown hap.2.1 NE.out.1, hS.2.grown hap.2.1 NE.out.2.1⟩)
    clear hK K
    (try simp only [Act.put, layS])
    have HAP := hHd hap
    clear hap
    refine tkH 14 hS ?_
    refine tkH 15 hS ?_
    refine rdy1 16 fun K hK => ?_
    have x1 := (HBX.out _ _ _ HW.out HAP.out).1
    have x2 := (HBX.out _ _ _ HW.out HAP.out).2
    go_simp
    refine hK.out _ _ ?sr_z (fun hS => ?_)
    case sr_z => (exact ⟨hS.1.far NE.out.2.2.1 _, hS.2.far NE.out.2.2.2 _⟩)
    clear hK K
    (try simp only [Act.put, layS])
    refine wpAnyH_done (by kernel_rfl) ?_ _
    refine NoPanic.normal ?_
  case' str_j =>
   go_simp
   refine hK.out _ _ ?sr_j (fun hS => ?_)
   case sr_j => (exact ⟨hS.1.alloc _, hS.2.alloc _⟩)
   clear hK K
   (try simp only [Act.put, layS])
   have HL := hHd (Blk.new w 61 #[y0, y1, y2, y3, y4, y5, y6, y7, .slice none 0 0])
   have HB := hHd (Blk.alloc (w := w) HB.out (.cells #[y0, y1, y2, y3, y4, y5, y6, y7, .slice none 0 0] 61))
   have HW : Hid (Below w.heap.size w (w.alloc (.cells #[y0, y1, y2, y3, y4, y5, y6, y7, .slice none 0 0] 61)).drew) := hHd (bAl.drew)
   refine rdy [4, 9] (rdC (fun K hK => ?str_10) (rdC (fun K hK => ?str_11) .nil))
   case' str_10 =>
    have c8 := (HB.out.cell 8).trans rfl
    go_simp
    refine hK.out _ _ ?sr_10 (fun hS => ?_)
    case sr_10 => (exact hS)
    clear hK K
    (try simp only [Act.put, layS])
    clear c8
    refine rdy1 9 fun K hK => ?_
    go_simp
    refine (HF2.out _ HW.out).out.mono ?_
    rintro r w9 ⟨rfl, hb9⟩
    go_wp2_with fail
    refine hK.out _ _ ?sr_12 (fun hS => ?_)
    case sr_12 => (exact ⟨hS.1.below hb9 hS.1.lt, hS.2.below hb9 hS.2.lt⟩)
    clear hK K
    (try simp only [Act.put, layS])
    have HB := hHd (HB.out.later hb9 rfl)
    have HL := hHd (HL.out.later hb9 rfl)
    have HW := hHd (HW.out.trans (hb9.mono HW.out.size))
    clear hb9
    refine tkH 10 hS ?_ (hy := fun w hSw => by have hc := HS0.out; (go_simp <;> with_reducible rfl))
    refine rdy1 13 fun K hK => ?_
    go_simp
    refine (HF3.out _ _ HW.out HL.out).out.mono ?_
    rintro r w13 ⟨v', rfl, hap⟩
    obtain ⟨g13, c13, rfl⟩ := hap.2.2.2
    go_wp2_with fail
    refine hK.out _ _ ?sr_13 (fun hS => ?_)
    case sr_13 => (exact ⟨hS.1.grown hap.2.1 NE.out.1, hS.2.grown hap.2.1 NE.out.2.1⟩)
    clear hK K
    (try simp only [Act.put, layS])
    have HAP := hHd hap
    clear hap
    refine tkH 14 hS ?_
    refine tkH 15 hS ?_
    refine rdy1 16 fun K hK => ?_
    have x1 := (HBX.out _ _ _ HW.out HAP.out).1
    have x2 := (HBX.out _ _ _ HW.out HAP.out).2
    go_simp
    refine hK.out _ _ ?sr_14 (fun hS => ?_)
    case sr_14 => (exact ⟨hS.1.far NE.out.2.2.1 _, hS.2.far NE.out.2.2.2 _⟩)
    clear hK K
    (try simp only [Act.put, layS])
    refine wpAnyH_done (by kernel_rfl) ?_ _
    refine NoPanic.normal ?_
   case' str_11 =>
    go_simp
    refine (HF2.out _ HW.out).out.mono ?_
    rintro r w9 ⟨rfl, hb9⟩
    go_wp2_with fail
    refine hK.out _ _ ?sr_11 (fun hS => ?_)
    case sr_11 => (exact ⟨hS.1.below hb9 hS.1.lt, hS.2.below hb9 hS.2.lt⟩)
    clear hK K
    (try simp only [Act.put, layS])
    have HB := hHd (HB.out.later hb9 rfl)
    have HL := hHd (HL.out.later hb9 rfl)
    have HW := hHd (HW.out.trans (hb9.mono HW.out.size))
    clear hb9
    refine tkH 10 hS ?_ (hy := fun w hSw => by have hc := HS0.out; (go_simp <;> with_reducible rfl))
    refine rdy1 4 fun K hK => ?_
    have c8 := (HB.out.cell 8).trans rfl
    go_simp
    refine hK.out _ _ ?sr_15 (fun hS => ?_)
    case sr_15 => (exact hS)
    clear hK K
    (try simp only [Act.put, layS])
    clear c8
    refine rdy1 13 fun K hK => ?_
    go_simp
    refine (HF3.out _ _ HW.out HL.out).out.mono ?_
    rintro r w13 ⟨v', rfl, hap⟩
    obtain ⟨g13, c13, rfl⟩ := hap.2.2.2
    go_wp2_with fail
    refine hK.out _ _ ?sr_16 (fun hS => ?_)
    case sr_16 => (exact ⟨hS.1.grown hap.2.1 NE.out.1, hS.2.grown hap.2.1 NE.out.2.1⟩)
    clear hK K
    (try simp only [Act.put, layS])
    have HAP := hHd hap
    clear hap
    refine tkH 14 hS ?_
    refine tkH 15 hS ?_
    refine rdy1 16 fun K hK => ?_
    have x1 := (HBX.out _ _ _ HW.out HAP.out).1
    have x2 := (HBX.out _ _ _ HW.out HAP.out).2
    go_simp
    refine hK.out _ _ ?sr_17 (fun hS => ?_)
    case sr_17 => (exact ⟨hS.1.far NE.out.2.2.1 _, hS.2.far NE.out.2.2.2 _⟩)
    clear hK K
    (try simp only [Act.put, layS])
    refine wpAnyH_done (by kernel_rfl) ?_ _
    refine NoPanic.normal ?_
 case' str_2 =>
  go_simp
  refine hK.out _ _ ?sr_2 (fun hS => ?_)
  case sr_2 => (exact ⟨hS.1.alloc _, hS.2.alloc _⟩)
  clear hK K
  (try simp only [Act.put, layS])
  have HL := hHd (Blk.new w 61 #[y0, y1, y2, y3, y4, y5, y6, y7, .slice none 0 0])
  have HB := hHd (Blk.alloc (w := w) HB.out (.cells #[y0, y1, y2, y3, y4, y5, y6, y7, .slice none 0 0] 61))
  have HW : Hid (Below w.heap.size w (w.alloc (.cells #[y0, y1, y2, y3, y4, y5, y6, y7, .slice none 0 0] 61)).drew) := hHd (bAl.drew)
  refine rdy [4, 7] (rdC (fun K hK => ?str_18) (rdC (fun K hK => ?str_19) .nil))
  case' str_18 =>
   have c8 := (HB.out.cell 8).trans rfl
   go_simp
   refine hK.out _ _ ?sr_18 (fun hS => ?_)
   case sr_18 => (exact hS)
   clear hK K
   (try simp only [Act.put, layS])
   clear c8
   refine rdy1 7 fun K hK => ?_
   obtain ⟨c0, c1, c2, c3, c4, c5, c6, c7, c8⟩ := cl9 HB.out
   go_simp
   refine hK.out _ _ ?sr_1a (fun hS => ?_)
   case sr_1a => (exact hS)
   clear hK K
   (try simp only [Act.put, layS])
   clear c0 c1 c2 c3 c4 c5 c6 c7 c8
   refine rdy1 9 fun K hK => ?_
   go_simp
   refine (HF2.out _ HW.out).out.mono ?_
   rintro r w9 ⟨rfl, hb9⟩
   go_wp2_with fail
   refine hK.out _ _ ?sr_1b (fun hS => ?_)
   case sr_1b => (exact ⟨hS.1.below hb9 hS.1.lt, hS.2.below hb9 hS.2.lt⟩)
   clear hK K
   (try simp only [Act.put, layS])
   have HB := hHd (HB.out.later hb9 rfl)
   have HL := hHd (HL.out.later hb9 rfl)
   have HW := hHd (HW.out.trans (hb9.mono HW.out.size))
   clear hb9
   refine tkH 10 hS ?_ (hy := fun w hSw => by have hc := HS0.out; (go_simp <;> with_reducible rfl))
   refine rdy1 13 fun K hK => ?_
   go_simp
   refine (HF3.out _ _ HW.out HL.out).out.mono ?_
   rintro r w13 ⟨v', rfl, hap⟩
   obtain ⟨g13, c13, rfl⟩ := hap.2.2.2
   go_wp2_with fail
   refine hK.out _ _ ?sr_1c (fun hS => ?_)
   case sr_1c => (exact ⟨hS.1.grown hap.2.1 NE.out.1, hS.2.grown hap.2.1 NE.out.2.1⟩)
   clear hK K
   (try simp only [Act.put, layS])
   have HAP := hHd hap
   clear hap
   refine tkH 14 hS ?_
   refine tkH 15 hS ?_
   refine rdy1 16 fun K hK => ?_
   have x1 := (HBX.out _ _ _ HW.out HAP.out).1
   have x2 := (HBX.out _ _ _ HW.out HAP.out).2
   go_simp
   refine hK.out _ _ ?sr_1d (fun hS => ?_)
   case sr_1d => (exact ⟨hS.1.far NE.out.2.2.1 _, hS.2.far NE.out.2.2.2 _⟩)
   clear hK K
   (try simp only [Act.put, layS])
   refine wpAnyH_done (by kernel_rfl) ?_ _
   refine NoPanic.normal ?_
  case' str_19 =>
   obtain ⟨c0, c1, c2, c3, c4, c5, c6, c7, c8⟩ := cl9 HB.out
   go_simp
   refine hK.out _ _ ?sr_19 (fun hS => ?_)
   case sr_19 => (exact hS)
   clear hK K
   (try simp only [Act.put, layS])
   clear c0 c1 c2 c3 c4 c5 c6 c7 c8
   refine rdy [4, 9] (rdC (fun K hK => ?str_1e) (rdC (fun K hK => ?str_1f) .nil))
   case' str_1e =>
    have c8 := (HB.out.cell 8).trans rfl
    go_simp
    refine hK.out _ _ ?sr_1e (fun hS => ?_)
    case sr_1e => (exact hS)
    clear hK K
    (try simp only [Act.put, layS])
    clear c8
    refine rdy1 9 fun K hK => ?_
    go_simp
    refine (HF2.out _ HW.out).out.mono ?_
    rintro r w9 ⟨rfl, hb9⟩
    go_wp2_with fail
    refine hK.out _ _ ?sr_1g (fun hS => ?_)
    case sr_1g => (exact ⟨hS.1.below hb9 hS.1.lt, hS.2.below hb9 hS.2.lt⟩)
    clear hK K
    (try simp only [Act.put, layS])
    have HB := hHd (HB.out.later hb9 rfl)
    have HL := hHd (HL.out.later hb9 rfl)
    have HW := hHd (HW.out.trans (hb9.mono HW.out.size))
    clear hb9
    refine tkH 10 hS ?_ (hy := fun w hSw => by have hc := HS0.out; (go_simp <;> with_reducible rfl))
    refine rdy1 13 fun K hK => ?_
    go_simp
    refine (HF3.out _ _ HW.out HL.out).out.mono ?_
    rintro r w13 ⟨v', rfl, hap⟩
    obtain ⟨g13, c13, rfl⟩ := hap.2.2.2
    go_wp2_with fail
    refine hK.out _ _ ?sr_1h (fun hS => ?_)
    case sr_1h => (exact ⟨hS.1.grown hap.2.1 NE.out.1, hS.2.grown hap.2.1 NE.out.2.1⟩)
    clear hK K
    (try simp only [Act.put, layS])
    have HAP := hHd hap
    clear hap
    refine tkH 14 hS ?_
    refine tkH 15 hS ?_
    refine rdy1 16 fun K hK => ?_
    have x1 := (HBX.out _ _ _ HW.out HAP.out).1
    have x2 := (HBX.out _ _ _ HW.out HAP.out).2
    go_simp
    refine hK.out _ _ ?sr_1i (fun hS => ?_)
    case sr_1i => (exact ⟨hS.1.far NE.out.2.2.1 _, hS.2.far NE.out.2.2.2 _⟩)
    clear hK K
    (try simp only [Act.put, layS])
    refine wpAnyH_done (by kernel_rfl) ?_ _
    refine NoPanic.normal ?_
   case' str_1f =>
    go_simp
    refine (HF2.out _ HW.out).out.mono ?_
    rintro r w9 ⟨rfl, hb9⟩
    go_wp2_with fail
    refine hK.out _ _ ?sr_1f (fun hS => ?_)
    case sr_1f => (exact ⟨hS.1.below hb9 hS.1.lt, hS.2.below hb9 hS.2.lt⟩)
    clear hK K
    (try simp only [Act.put, layS])
    have HB := hHd (HB.out.later hb9 rfl)
    have HL := hHd (HL.out.later hb9 rfl)
    have HW := hHd (HW.out.trans (hb9.mono HW.out.size))
    clear hb9
    refine tkH 10 hS ?_ (hy := fun w hSw => by have hc := HS0.out; (go_simp <;> with_reducible rfl))
    refine rdy1 4 fun K hK => ?_
    have c8 := (HB.out.cell 8).trans rfl
    go_simp
    refine hK.out _ _ ?sr_1j (fun hS => ?_)
    case sr_1j => (exact hS)
    clear hK K
    (try simp only [Act.put, layS])
    clear c8
    refine rdy1 13 fun K hK => ?_
    go_simp
    refine (HF3.out _ _ HW.out HL.out).out.mono ?_
    rintro r w13 ⟨v', rfl, hap⟩
    obtain ⟨g13, c13, rfl⟩ := hap.2.2.2
    go_wp2_with fail
    refine hK.out _ _ ?sr_1k (fun hS => ?_)
    case sr_1k => (exact ⟨hS.1.grown hap.2.1 NE.out.1, hS.2.grown hap.2.1 NE.out.2.1⟩)
    clear hK K
    (try simp only [Act.put, layS])
    have HAP := hHd hap
    clear hap
    refine tkH 14 hS ?_
    refine tkH 15 hS ?_
    refine rdy1 16 fun K hK => ?_
    have x1 := (HBX.out _ _ _ HW.out HAP.out).1
    have x2 := (HBX.out _ _ _ HW.out HAP.out).2
    go_simp
    refine hK.out _ _ ?sr_1l (fun hS => ?_)
    case sr_1l => (exact ⟨hS.1.far NE.out.2.2.1 _, hS.2.far NE.out.2.2.2 _⟩)
    clear hK K
    (try simp only [Act.put, layS])
    refine wpAnyH_done (by kernel_rfl) ?_ _
    refine NoPanic.normal ?_
 all_goals (go_end0; exact (HF1.out _ _ _ HW.out HAP.out).out)
end Go.Proofs.YtodlhgflfcadmaaGreat
