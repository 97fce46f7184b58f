/- PthPln -/
import Derived.Test.YtikmilcdibldhaaDoorAM0
import Derived.Test.YtikmilcdibldhaaDoorAM9
set_option linter.unusedSimpArgs false
set_option linter.unusedVariables false
namespace Go.Proofs.YtikmilcdibldhaaDoor
open Go.RowKit
def PlainP15 (x : Sp) (N : Nat → Prop) (w : World) (r : Ending) (w' : World) : Prop := ∃ cs, r = .returned (.agg cs.toArray) ∧ SpN w' (Rng w.heap.size w'.heap.size) N cs x ∧ Below w.heap.size w w'
set_option maxRecDepth 100000 in
set_option maxHeartbeats 4000000 in
theorem splain_any15 (k : SpF) : ∀ (a : SpD) (cs : List Value) (w : World) (S N : Nat → Prop), SpN w S N cs (a, k) → (∀ g, S g → g < w.heap.size) → (∀ g, N g → g < w.heap.size) → k.size ≤ 1000000000 → Calls Tryd.prog 16 #[.agg cs.toArray] w (PlainP15 (a, k) N w) := by
 refine Fr.byKids (P := fun k => ∀ (a : SpD) (cs : List Value) (w : World) (S N : Nat → Prop), SpN w S N cs (a, k) → (∀ g, S g → g < w.heap.size) → (∀ g, N g → g < w.heap.size) → k.size ≤ 1000000000 → Calls Tryd.prog 16 #[.agg cs.toArray] w (PlainP15 (a, k) N w)) ?_ k
 clear k
 intro k hkids a cs w S N hx hS hN hsz
 obtain ⟨B, m, A, c, dn, rfl, hnm, hnN, hk⟩ := hx.shape
 have HI : Hid (∀ n b q, k.get? n = some (b, q) → ∀ (a : SpD) (cs : List Value) (w : World) (S N : Nat → Prop), SpN w S N cs (a, q) → (∀ g, S g → g < w.heap.size) → (∀ g, N g → g < w.heap.size) → q.size ≤ 1000000000 → Calls Tryd.prog 16 #[.agg cs.toArray] w (PlainP15 (a, q) N w)) := Lib.hid (fun n b q h => hkids n b q h)
 have HV := Lib.hid hnm
 have HNN := Lib.hid hnN
 have HK := Lib.hid hk
 have HS := Lib.hid hS
 have HN := Lib.hid hN
 have HZ := Lib.hid hsz
 clear hkids hx hnm hnN hk hS hN hsz
 go_enter Tryd.func16, Tryd.ntmps16
 go_wp2
 have hs3 : (((w.alloc (.cells #[.string (txt a.name), .int .i64 (a.kind : Int), .int .i64 (a.typ : Int), .int .u64 (a.low : Int), .int .u64 (a.high : Int), .slice B a.names.length m, .bool a.must, .int .i64 (a.most : Int), .slice A k.len c] 34)).alloc (.cells #[.string ⟨#[]⟩, .int .i64 0, .int .i64 0, .int .u64 0, .int .u64 0, .slice none 0 0, .bool false, .int .i64 0, .slice none 0 0] 39)).alloc (.cells #[.string (txt a.name), .int .i64 (a.kind : Int), .int .i64 (a.typ : Int), .int .u64 (a.low : Int), .int .u64 (a.high : Int), .slice B a.names.length m, .bool a.must, .int .i64 (a.most : Int), .slice none 0 0] 39)).heap.size = w.heap.size + 3 := by simp
 have hb3 : Below w.heap.size w (((w.alloc (.cells #[.string (txt a.name), .int .i64 (a.kind : Int), .int .i64 (a.typ : Int), .int .u64 (a.low : Int), .int .u64 (a.high : Int), .slice B a.names.length m, .bool a.must, .int .i64 (a.most : Int), .slice A k.len c] 34)).alloc (.cells #[.string ⟨#[]⟩, .int .i64 0, .int .i64 0, .int .u64 0, .int .u64 0, .slice none 0 0, .bool false, .int .i64 0, .slice none 0 0] 39)).alloc (.cells #[.string (txt a.name), .int .i64 (a.kind : Int), .int .i64 (a.typ : Int), .int .u64 (a.low : Int), .int .u64 (a.high : Int), .slice B a.names.length m, .bool a.must, .int .i64 (a.most : Int), .slice none 0 0] 39)) := (((Below.refl _ _).alloc (Nat.le_refl _) _).alloc (by simp) _).alloc (by simp; omega) _
 have hq0 : Blk (((w.alloc (.cells #[.string (txt a.name), .int .i64 (a.kind : Int), .int .i64 (a.typ : Int), .int .u64 (a.low : Int), .int .u64 (a.high : Int), .slice B a.names.length m, .bool a.must, .int .i64 (a.most : Int), .slice A k.len c] 34)).alloc (.cells #[.string ⟨#[]⟩, .int .i64 0, .int .i64 0, .int .u64 0, .int .u64 0, .slice none 0 0, .bool false, .int .i64 0, .slice none 0 0] 39)).alloc (.cells #[.string (txt a.name), .int .i64 (a.kind : Int), .int .i64 (a.typ : Int), .int .u64 (a.low : Int), .int .u64 (a.high : Int), .slice B a.names.length m, .bool a.must, .int .i64 (a.most : Int), .slice none 0 0] 39)) w.heap.size 34 #[.string (txt a.name), .int .i64 (a.kind : Int), .int .i64 (a.typ : Int), .int .u64 (a.low : Int), .int .u64 (a.high : Int), .slice B a.names.length m, .bool a.must, .int .i64 (a.most : Int), .slice A k.len c] := ((Blk.new w _ _).alloc _).alloc _
 have hq1 : Blk (((w.alloc (.cells #[.string (txt a.name), .int .i64 (a.kind : Int), .int .i64 (a.typ : Int), .int .u64 (a.low : Int), .int .u64 (a.high : Int), .slice B a.names.length m, .bool a.must, .int .i64 (a.most : Int), .slice A k.len c] 34)).alloc (.cells #[.string ⟨#[]⟩, .int .i64 0, .int .i64 0, .int .u64 0, .int .u64 0, .slice none 0 0, .bool false, .int .i64 0, .slice none 0 0] 39)).alloc (.cells #[.string (txt a.name), .int .i64 (a.kind : Int), .int .i64 (a.typ : Int), .int .u64 (a.low : Int), .int .u64 (a.high : Int), .slice B a.names.length m, .bool a.must, .int .i64 (a.most : Int), .slice none 0 0] 39)) (w.heap.size + 1) 39 #[.string ⟨#[]⟩, .int .i64 0, .int .i64 0, .int .u64 0, .int .u64 0, .slice none 0 0, .bool false, .int .i64 0, .slice none 0 0] := by
  have h := (Blk.new (w.alloc (.cells #[.string (txt a.name), .int .i64 (a.kind : Int), .int .i64 (a.typ : Int), .int .u64 (a.low : Int), .int .u64 (a.high : Int), .slice B a.names.length m, .bool a.must, .int .i64 (a.most : Int), .slice A k.len c] 34)) 39 #[.string ⟨#[]⟩, .int .i64 0, .int .i64 0, .int .u64 0, .int .u64 0, .slice none 0 0, .bool false, .int .i64 0, .slice none 0 0]).alloc (.cells #[.string (txt a.name), .int .i64 (a.kind : Int), .int .i64 (a.typ : Int), .int .u64 (a.low : Int), .int .u64 (a.high : Int), .slice B a.names.length m, .bool a.must, .int .i64 (a.most : Int), .slice none 0 0] 39)
  rw [show (w.alloc (.cells #[.string (txt a.name), .int .i64 (a.kind : Int), .int .i64 (a.typ : Int), .int .u64 (a.low : Int), .int .u64 (a.high : Int), .slice B a.names.length m, .bool a.must, .int .i64 (a.most : Int), .slice A k.len c] 34)).heap.size = w.heap.size + 1 by simp] at h
  exact h
 have hq2 : Blk (((w.alloc (.cells #[.string (txt a.name), .int .i64 (a.kind : Int), .int .i64 (a.typ : Int), .int .u64 (a.low : Int), .int .u64 (a.high : Int), .slice B a.names.length m, .bool a.must, .int .i64 (a.most : Int), .slice A k.len c] 34)).alloc (.cells #[.string ⟨#[]⟩, .int .i64 0, .int .i64 0, .int .u64 0, .int .u64 0, .slice none 0 0, .bool false, .int .i64 0, .slice none 0 0] 39)).alloc (.cells #[.string (txt a.name), .int .i64 (a.kind : Int), .int .i64 (a.typ : Int), .int .u64 (a.low : Int), .int .u64 (a.high : Int), .slice B a.names.length m, .bool a.must, .int .i64 (a.most : Int), .slice none 0 0] 39)) (w.heap.size + 1 + 1) 39 #[.string (txt a.name), .int .i64 (a.kind : Int), .int .i64 (a.typ : Int), .int .u64 (a.low : Int), .int .u64 (a.high : Int), .slice B a.names.length m, .bool a.must, .int .i64 (a.most : Int), .slice none 0 0] := by
  have h := Blk.new ((w.alloc (.cells #[.string (txt a.name), .int .i64 (a.kind : Int), .int .i64 (a.typ : Int), .int .u64 (a.low : Int), .int .u64 (a.high : Int), .slice B a.names.length m, .bool a.must, .int .i64 (a.most : Int), .slice A k.len c] 34)).alloc (.cells #[.string ⟨#[]⟩, .int .i64 0, .int .i64 0, .int .u64 0, .int .u64 0, .slice none 0 0, .bool false, .int .i64 0, .slice none 0 0] 39)) 39 #[.string (txt a.name), .int .i64 (a.kind : Int), .int .i64 (a.typ : Int), .int .u64 (a.low : Int), .int .u64 (a.high : Int), .slice B a.names.length m, .bool a.must, .int .i64 (a.most : Int), .slice none 0 0]
  rw [show ((w.alloc (.cells #[.string (txt a.name), .int .i64 (a.kind : Int), .int .i64 (a.typ : Int), .int .u64 (a.low : Int), .int .u64 (a.high : Int), .slice B a.names.length m, .bool a.must, .int .i64 (a.most : Int), .slice A k.len c] 34)).alloc (.cells #[.string ⟨#[]⟩, .int .i64 0, .int .i64 0, .int .u64 0, .int .u64 0, .slice none 0 0, .bool false, .int .i64 0, .slice none 0 0] 39)).heap.size = w.heap.size + 1 + 1 by simp] at h
  exact h
 have HQ := Lib.hid (And.intro hs3 (And.intro hb3 (And.intro hq0 (And.intro hq1 hq2))))
 clear hs3 hb3 hq0 hq1 hq2
 go_loopw [4] (fun i wr => ∃ (j : Nat) (kv : Value) (S' : Nat → Prop), j ≤ k.len ∧ i = .int .i64 (j : Int) ∧ Hid (∀ g, S' g → w.heap.size + 3 ≤ g) ∧ Hid (OwnG SpcD 39 9 8 wr (w.heap.size + 3) S' N kv (Fr.take j k)) ∧
  Blk wr w.heap.size 34 #[.string (txt a.name), .int .i64 (a.kind : Int), .int .i64 (a.typ : Int), .int .u64 (a.low : Int), .int .u64 (a.high : Int), .slice B a.names.length m, .bool a.must, .int .i64 (a.most : Int), .slice A k.len c] ∧ Blk wr (w.heap.size + 1) 39 #[.string ⟨#[]⟩, .int .i64 0, .int .i64 0, .int .u64 0, .int .u64 0, .slice none 0 0, .bool false, .int .i64 0, .slice none 0 0] ∧ Blk wr (w.heap.size + 1 + 1) 39 #[.string (txt a.name), .int .i64 (a.kind : Int), .int .i64 (a.typ : Int), .int .u64 (a.low : Int), .int .u64 (a.high : Int), .slice B a.names.length m, .bool a.must, .int .i64 (a.most : Int), kv] ∧ Below w.heap.size w wr) (fun i _ => k.len - (intOf i).toNat)
 case atStart => exact ⟨0, .slice none 0 0, fun _ => False, Nat.zero_le _, rfl, Lib.hid (fun _ h => h.elim), Lib.hid (OwnG.nilS _ _ (fun _ h => h.elim) (fun g hg => Nat.lt_of_lt_of_le (HN.out g hg) HQ.out.2.1.size)), HQ.out.2.2.1, HQ.out.2.2.2.1, HQ.out.2.2.2.2, HQ.out.2.1⟩
 case round =>
  obtain ⟨j, kv, S', hj, rfl, HS', HO, hP, hZ, hO, hB⟩ := hrel
  have HB := Lib.hid hB
  have HP := Lib.hid hP
  have HZB := Lib.hid hZ
  have HOB := Lib.hid hO
  have pq8 : wr.cell? ⟨w.heap.size, 8, none⟩ = some (.slice A k.len c) := (hP.cell 8).trans rfl
  by_cases hlt : j < k.len
  ·obtain ⟨a1, k1, hg⟩ := Fr.get_some hlt
   obtain ⟨b, o, c', cs1, ee, -, hSb, hNk, hcl⟩ := HK.out.at hg
   injection ee with e1 e2 e3
   subst e1 e3
   have hsh := SpN.shape (x := (a1, k1)) hNk
   obtain ⟨B1, m1, A1, c1, d1, rfl, -, -, -⟩ := hsh
   have hbl : b < w.heap.size := HS.out b hSb
   have i1 : (0 : Int) ≤ (j : Int) := by omega
   have i2 : (j : Int) < (k.len : Int) := by omega
   have i3 : (k.len : Int) ≤ 1000000000 := by have := Fr.len_size k; have := HZ.out; omega
   have HI1 := Lib.hid (HI.out j a1 k1 hg a1 _ wr.drew S N (FrN.kept stay_spc hNk (fun g hg => hB.drew.block g (HS.out g hg)) (fun _ h => h) (fun g hg => hB.drew.block g (HN.out g hg)) (fun _ h => h)) (fun g hg => Nat.lt_of_lt_of_le (HS.out g hg) hB.size) (fun g hg => Nat.lt_of_lt_of_le (HN.out g hg) hB.size) (by have := Fr.size_get hg; have := HZ.out; omega))
   have HTK := Lib.hid (Fr.get_drop hg).2
   have HBL := Lib.hid hbl
   have HC : Hid (∀ i u, ([.string (txt a1.name), .int .i64 (a1.kind : Int), .int .i64 (a1.typ : Int), .int .u64 (a1.low : Int), .int .u64 (a1.high : Int), .slice B1 a1.names.length m1, .bool a1.must, .int .i64 (a1.most : Int), .slice A1 k1.len c1] : List Value)[i]? = some u → wr.drew.cell? ⟨b, o + j * 9 + i, none⟩ = some u) := Lib.hid (fun i u hu => (hB.drew.cell (p := ⟨b, o + j * 9 + i, none⟩) hbl).trans (hcl i u hu))
   have HP0 := Lib.hid (hP.below (Below.refl _ _).drew hP.lt)
   have HO0 := Lib.hid (hO.below (Below.refl _ _).drew hO.lt)
   have HZ0 := Lib.hid (hZ.below (Below.refl _ _).drew hZ.lt)
   clear hcl hNk hg hSb e2 hP hZ hO hB hbl
   go_wp2_with fail
   refine wp_region_noPanic ?_
   refine wp_region_held_drew (S := fun _ => True) (by kernel_rfl) trivial (fun hS => ?_)
   refine wpAnyH_take (i := 0) (oi := ?o_0) (v := ?v_0) ?i_0 (by kernel_rfl) (by kernel_rfl) (by kernel_rfl) (fun _ _ _ h => h) (Or.inl ⟨?g_0, ?y_0⟩) hS ?_
   case i_0 => simp only [layG]; rfl
   case g_0 => rfl
   case y_0 => (intro w hSw; (go_simp <;> with_reducible rfl))
   (try simp only [Act.put, layS])
   refine wpAnyH_take (i := 2) (oi := ?o_1) (v := ?v_1) ?i_1 (by kernel_rfl) (by kernel_rfl) (by kernel_rfl) (fun _ _ _ h => h) (Or.inl ⟨?g_1, ?y_1⟩) hS ?_
   case i_1 => simp only [layG]; rfl
   case g_1 => rfl
   case y_1 => (intro w hSw; (go_simp <;> with_reducible rfl))
   (try simp only [Act.put, layS])
   refine held_more (S' := fun w' => Blk w' w.heap.size 34 #[.string (txt a.name), .int .i64 (a.kind : Int), .int .i64 (a.typ : Int), .int .u64 (a.low : Int), .int .u64 (a.high : Int), .slice B a.names.length m, .bool a.must, .int .i64 (a.most : Int), .slice (some ⟨b, o, none⟩) k.len c] ∧ ∀ i u, ([.string (txt a1.name), .int .i64 (a1.kind : Int), .int .i64 (a1.typ : Int), .int .u64 (a1.low : Int), .int .u64 (a1.high : Int), .slice B1 a1.names.length m1, .bool a1.must, .int .i64 (a1.most : Int), .slice A1 k1.len c1] : List Value)[i]? = some u → w'.cell? ⟨b, o + j * 9 + i, none⟩ = some u) (fun _ _ => trivial) _ _ _ _ ?_
   replace hS := And.intro HP0.out HC.out
   refine wpAnyH_take (i := 3) (oi := ?o_2) (v := ?v_2) ?i_2 (by kernel_rfl) (by kernel_rfl) (by kernel_rfl) (fun _ _ _ h => h) (Or.inl ⟨?g_2, ?y_2⟩) hS ?_
   case i_2 => simp only [layG]; rfl
   case g_2 => rfl
   case y_2 => (intro w hSw; have q8 := (hSw.1.cell 8).trans rfl; (go_simp <;> with_reducible rfl))
   (try simp only [Act.put, layS])
   refine wpAnyH_take (i := 4) (oi := ?o_3) (v := ?v_3) ?i_3 (by kernel_rfl) (by kernel_rfl) (by kernel_rfl) (fun _ _ _ h => h) (Or.inl ⟨?g_3, ?y_3⟩) hS ?_
   case i_3 => simp only [layG]; rfl
   case g_3 => rfl
   case y_3 => (intro w hSw; (go_simp <;> with_reducible rfl))
   (try simp only [Act.put, layS])
   refine wpAnyH_take (i := 5) (oi := ?o_4) (v := ?v_4) ?i_4 (by kernel_rfl) (by kernel_rfl) (by kernel_rfl) (fun _ _ _ h => h) (Or.inl ⟨?g_4, ?y_4⟩) hS ?_
   case i_4 => simp only [layG]; rfl
   case g_4 => rfl
   case y_4 => (intro w hSw; (go_simp <;> with_reducible rfl))
   (try simp only [Act.put, layS])
   refine wpAnyH_take (i := 6) (oi := ?o_5) (v := ?v_5) ?i_5 (by kernel_rfl) (by kernel_rfl) (by kernel_rfl) (fun _ _ _ h => h) (Or.inl ⟨?g_5, ?y_5⟩) hS ?_
   case i_5 => simp only [layG]; rfl
   case g_5 => rfl
   case y_5 => (intro w hSw; have u0 : w.cell? ⟨b, o + j * 9, none⟩ = some (.string (txt a1.name)) := hSw.2 0 _ rfl; have u1 := hSw.2 1 _ rfl; have u2 := hSw.2 2 _ rfl; have u3 := hSw.2 3 _ rfl; have u4 := hSw.2 4 _ rfl; have u5 := hSw.2 5 _ rfl; have u6 := hSw.2 6 _ rfl; have u7 := hSw.2 7 _ rfl; have u8 := hSw.2 8 _ rfl; (go_simp <;> with_reducible rfl))
   (try simp only [Act.put, layS])
   refine wpAnyH_ready (rs := [1, 7]) (by kernel_rfl) (by simp) ?_
   refine (AllReadyH.cons (o := ?or_6) ?ir_6 (fun K hK => ?str_6) (AllReadyH.cons (o := ?or_7) ?ir_7 (fun K hK => ?str_7) AllReadyH.nil))
   case ir_6 => simp only [layG]; rfl
   case ir_7 => simp only [layG]; rfl
   case' str_6 =>
    rw [if_pos (by rfl)]
    have q8 := (HO0.out.cell 8).trans rfl
    go_simp
    refine hK.out _ _ ?sr_6 (fun hS => ?_)
    case sr_6 => (exact hS)
    clear hK K
    (try simp only [Act.put, layS])
    refine wpAnyH_ready (rs := [7]) (by kernel_rfl) (by simp) ?_
    refine (AllReadyH.cons (o := ?or_8) ?ir_8 (fun K hK => ?str_8) AllReadyH.nil)
    case ir_8 => simp only [layG]; rfl
    rw [if_pos (by rfl)]
    go_simp
    refine HI1.out.mono ?_
    rintro r w6 ⟨cs6, rfl, hk6, hb6⟩
    obtain ⟨B6, m6, A6, c6, d6, rfl, -, -, -⟩ := hk6.shape
    have HO6 := Lib.hid (HO0.out.below hb6 HO0.out.lt)
    have HZ6 := Lib.hid (HZ0.out.below hb6 HZ0.out.lt)
    have HP6 := Lib.hid (HP0.out.below hb6 HP0.out.lt)
    have HC6 : Hid (∀ i u, ([.string (txt a1.name), .int .i64 (a1.kind : Int), .int .i64 (a1.typ : Int), .int .u64 (a1.low : Int), .int .u64 (a1.high : Int), .slice B1 a1.names.length m1, .bool a1.must, .int .i64 (a1.most : Int), .slice A1 k1.len c1] : List Value)[i]? = some u → w6.cell? ⟨b, o + j * 9 + i, none⟩ = some u) := Lib.hid (fun i u hu => (hb6.cell (p := ⟨b, o + j * 9 + i, none⟩) (Nat.lt_trans HBL.out HP0.out.lt)).trans (HC.out i u hu))
    have HB6 := Lib.hid (HB.out.drew.trans (hb6.mono HB.out.drew.size))
    have HW6 := Lib.hid hb6
    have HK6 := Lib.hid hk6
    clear hb6 hk6
    go_wp2_with fail
    refine hK.out _ _ ?sr_8 (fun hS => ?_)
    case sr_8 => (exact ⟨HP6.out, HC6.out⟩)
    clear hK K
    (try simp only [Act.put, layS])
    refine wpAnyH_ready (rs := [8]) (by kernel_rfl) (by simp) ?_
    refine (AllReadyH.cons (o := ?or_9) ?ir_9 (fun K hK => ?str_9) AllReadyH.nil)
    case ir_9 => simp only [layG]; rfl
    rw [if_pos (by rfl)]
    go_simp
    refine hK.out _ _ ?sr_9 (fun hS => ?_)
    case sr_9 => (exact ⟨HP6.out.alloc (.cells #[.string (txt a1.name), .int .i64 (a1.kind : Int), .int .i64 (a1.typ : Int), .int .u64 (a1.low : Int), .int .u64 (a1.high : Int), .slice B6 a1.names.length m6, .bool a1.must, .int .i64 (a1.most : Int), .slice A6 k1.len c6] 39), fun i u hu => ((Below.refl w6.heap.size w6).alloc (Nat.le_refl _) (.cells #[.string (txt a1.name), .int .i64 (a1.kind : Int), .int .i64 (a1.typ : Int), .int .u64 (a1.low : Int), .int .u64 (a1.high : Int), .slice B6 a1.names.length m6, .bool a1.must, .int .i64 (a1.most : Int), .slice A6 k1.len c6] 39)).cell (p := ⟨b, o + j * 9 + i, none⟩) (Nat.lt_trans HBL.out HP6.out.lt) |>.trans (HC6.out i u hu)⟩)
    clear hK K
    (try simp only [Act.put, layS])
    have HOA := Lib.hid (HO6.out.alloc (.cells #[.string (txt a1.name), .int .i64 (a1.kind : Int), .int .i64 (a1.typ : Int), .int .u64 (a1.low : Int), .int .u64 (a1.high : Int), .slice B6 a1.names.length m6, .bool a1.must, .int .i64 (a1.most : Int), .slice A6 k1.len c6] 39))
    have hown6 := ((HO.out.below stay_spc (Below.refl _ _).drew).below stay_spc HW6.out).below stay_spc ((Below.refl w6.heap.size w6).alloc (Nat.le_refl _) (.cells #[.string (txt a1.name), .int .i64 (a1.kind : Int), .int .i64 (a1.typ : Int), .int .u64 (a1.low : Int), .int .u64 (a1.high : Int), .slice B6 a1.names.length m6, .bool a1.must, .int .i64 (a1.most : Int), .slice A6 k1.len c6] 39))
    have HOWN := Lib.hid (hown6.widen stay_spc (S' := fun g => S' g ∨ Rng wr.heap.size w6.heap.size g) (N' := N) (fun g h => .inl h) (fun g h => h) (fun g h => h.elim (fun h => hown6.1 g h) (fun h => ⟨Nat.lt_of_lt_of_le h.2 (by simp), fun e => absurd (HO.out.lt g e.symm).2 (Nat.not_lt.2 h.1)⟩)) hown6.2.1)
    have HKA : Hid (FrN SpcD 9 8 (w6.alloc (.cells #[.string (txt a1.name), .int .i64 (a1.kind : Int), .int .i64 (a1.typ : Int), .int .u64 (a1.low : Int), .int .u64 (a1.high : Int), .slice B6 a1.names.length m6, .bool a1.must, .int .i64 (a1.most : Int), .slice A6 k1.len c6] 39)) (fun g => S' g ∨ Rng wr.heap.size w6.heap.size g) N [.string (txt a1.name), .int .i64 (a1.kind : Int), .int .i64 (a1.typ : Int), .int .u64 (a1.low : Int), .int .u64 (a1.high : Int), .slice B6 a1.names.length m6, .bool a1.must, .int .i64 (a1.most : Int), .slice A6 k1.len c6] a1 k1) := Lib.hid (FrN.kept stay_spc HK6.out (fun g hg => ((Below.refl w6.heap.size w6).alloc (Nat.le_refl _) (.cells #[.string (txt a1.name), .int .i64 (a1.kind : Int), .int .i64 (a1.typ : Int), .int .u64 (a1.low : Int), .int .u64 (a1.high : Int), .slice B6 a1.names.length m6, .bool a1.must, .int .i64 (a1.most : Int), .slice A6 k1.len c6] 39)).block g hg.2) (fun g hg => .inr hg) (fun g hg => ((Below.refl w6.heap.size w6).alloc (Nat.le_refl _) (.cells #[.string (txt a1.name), .int .i64 (a1.kind : Int), .int .i64 (a1.typ : Int), .int .u64 (a1.low : Int), .int .u64 (a1.high : Int), .slice B6 a1.names.length m6, .bool a1.must, .int .i64 (a1.most : Int), .slice A6 k1.len c6] 39)).block g (Nat.lt_trans (HN.out g hg) HP6.out.lt)) (fun _ h => h))
    clear hown6
    refine wpAnyH_ready (rs := [9]) (by kernel_rfl) (by simp) ?_
    refine (AllReadyH.cons (o := ?or_a) ?ir_a (fun K hK => ?str_a) AllReadyH.nil)
    case ir_a => simp only [layG]; rfl
    rw [if_pos (by rfl)]
    refine wp_append_g (ys := [.string (txt a1.name), .int .i64 (a1.kind : Int), .int .i64 (a1.typ : Int), .int .u64 (a1.low : Int), .int .u64 (a1.high : Int), .slice B6 a1.names.length m6, .bool a1.must, .int .i64 (a1.most : Int), .slice A6 k1.len c6]) stay_spc one_spc Tryd.underlying37 infoS zeroS (by decide) (.tmp 30) (.tmp 37) (by rfl) (by rfl) (by rfl) HOWN.out (by rfl) (Blk.new w6 _ _) HKA.out ?_ ?_ ?_ ?_
    ·rw [Fr.len_take j k hj]; have := Fr.len_size k; have := HZ.out; omega
    ·rw [Fr.len_take j k hj]; have := Fr.len_size k; have := HZ.out; omega
    ·exact Nat.le_trans HOA.out.lt (Nat.le_refl _)
    intro v20 w20 hap
    obtain ⟨g20, c20, e20⟩ := hap.2.2.2
    rw [← HTK.out, Fr.len_take (j + 1) k (by omega)] at e20
    subst e20
    have hb20 := hap.below HOWN.out HOA.out.lt
    have HB20 : Hid (Below w.heap.size w w20) := Lib.hid ((HB6.out.alloc HB6.out.size _).trans (hb20.mono (by omega)))
    have HP20 := Lib.hid ((HP6.out.alloc (.cells #[.string (txt a1.name), .int .i64 (a1.kind : Int), .int .i64 (a1.typ : Int), .int .u64 (a1.low : Int), .int .u64 (a1.high : Int), .slice B6 a1.names.length m6, .bool a1.must, .int .i64 (a1.most : Int), .slice A6 k1.len c6] 39)).below hb20 (by omega))
    have HZ20 := Lib.hid ((HZ6.out.alloc (.cells #[.string (txt a1.name), .int .i64 (a1.kind : Int), .int .i64 (a1.typ : Int), .int .u64 (a1.low : Int), .int .u64 (a1.high : Int), .slice B6 a1.names.length m6, .bool a1.must, .int .i64 (a1.most : Int), .slice A6 k1.len c6] 39)).below hb20 (by omega))
    have HO20 := Lib.hid (HOA.out.below hb20 (by omega))
    have HAP := Lib.hid hap.1
    refine hK.out _ _ ?sr_a (fun hS => ?_)
    case sr_a => (exact ⟨HP20.out, fun i u hu => (hb20.cell (p := ⟨b, o + j * 9 + i, none⟩) (Nat.lt_of_lt_of_le HBL.out (by omega))).trans (hS.2 i u hu)⟩)
    clear hK K
    (try simp only [Act.put, layS])
    clear hap hb20
    refine wpAnyH_take (i := 10) (oi := ?o_b) (v := ?v_b) ?i_b (by kernel_rfl) (by kernel_rfl) (by kernel_rfl) (fun _ _ _ h => h) (Or.inl ⟨?g_b, ?y_b⟩) hS ?_
    case i_b => simp only [layG]; rfl
    case g_b => rfl
    case y_b => (intro w hSw; (go_simp <;> with_reducible rfl))
    (try simp only [Act.put, layS])
    refine wpAnyH_ready (rs := [11]) (by kernel_rfl) (by simp) ?_
    refine (AllReadyH.cons (o := ?or_c) ?ir_c (fun K hK => ?str_c) AllReadyH.nil)
    case ir_c => simp only [layG]; rfl
    rw [if_pos (by rfl)]
    have f8 := HO20.out.frozen 8
    have q8 := (HO20.out.cell 8).trans rfl
    go_simp
    refine hK.out _ _ ?sr_c (fun hS => ?_)
    case sr_c => (exact ⟨hS.1.far (by show w.heap.size ≠ w.heap.size + 1 + 1; omega) _, fun i u hu => (World.cell?_setCell_other _ _ _ _ (by intro h; injection h with h1 h2; have := HBL.out; omega)).trans (hS.2 i u hu)⟩)
    clear hK K
    (try simp only [Act.put, layS])
    refine wpAnyH_done (by kernel_rfl) ?_ _
    refine NoPanic.normal ?_
   case' str_7 =>
    rw [if_pos (by rfl)]
    go_simp
    refine HI1.out.mono ?_
    rintro r w6 ⟨cs6, rfl, hk6, hb6⟩
    obtain ⟨B6, m6, A6, c6, d6, rfl, -, -, -⟩ := hk6.shape
    have HO6 := Lib.hid (HO0.out.below hb6 HO0.out.lt)
    have HZ6 := Lib.hid (HZ0.out.below hb6 HZ0.out.lt)
    have HP6 := Lib.hid (HP0.out.below hb6 HP0.out.lt)
    have HC6 : Hid (∀ i u, ([.string (txt a1.name), .int .i64 (a1.kind : Int), .int .i64 (a1.typ : Int), .int .u64 (a1.low : Int), .int .u64 (a1.high : Int), .slice B1 a1.names.length m1, .bool a1.must, .int .i64 (a1.most : Int), .slice A1 k1.len c1] : List Value)[i]? = some u → w6.cell? ⟨b, o + j * 9 + i, none⟩ = some u) := Lib.hid (fun i u hu => (hb6.cell (p := ⟨b, o + j * 9 + i, none⟩) (Nat.lt_trans HBL.out HP0.out.lt)).trans (HC.out i u hu))
    have HB6 := Lib.hid (HB.out.drew.trans (hb6.mono HB.out.drew.size))
    have HW6 := Lib.hid hb6
    have HK6 := Lib.hid hk6
    clear hb6 hk6
    go_wp2_with fail
    refine hK.out _ _ ?sr_7 (fun hS => ?_)
    case sr_7 => (exact ⟨HP6.out, HC6.out⟩)
    clear hK K
    (try simp only [Act.put, layS])
    refine wpAnyH_ready (rs := [1, 8]) (by kernel_rfl) (by simp) ?_
    refine (AllReadyH.cons (o := ?or_d) ?ir_d (fun K hK => ?str_d) (AllReadyH.cons (o := ?or_e) ?ir_e (fun K hK => ?str_e) AllReadyH.nil))
    case ir_d => simp only [layG]; rfl
    case ir_e => simp only [layG]; rfl
    case' str_d =>
     rw [if_pos (by rfl)]
     have q8 := (HO6.out.cell 8).trans rfl
     go_simp
     refine hK.out _ _ ?sr_d (fun hS => ?_)
     case sr_d => (exact hS)
     clear hK K
     (try simp only [Act.put, layS])
     refine wpAnyH_ready (rs := [8]) (by kernel_rfl) (by simp) ?_
     refine (AllReadyH.cons (o := ?or_f) ?ir_f (fun K hK => ?str_f) AllReadyH.nil)
     case ir_f => simp only [layG]; rfl
     rw [if_pos (by rfl)]
     go_simp
     refine hK.out _ _ ?sr_f (fun hS => ?_)
     case sr_f => (exact ⟨HP6.out.alloc (.cells #[.string (txt a1.name), .int .i64 (a1.kind : Int), .int .i64 (a1.typ : Int), .int .u64 (a1.low : Int), .int .u64 (a1.high : Int), .slice B6 a1.names.length m6, .bool a1.must, .int .i64 (a1.most : Int), .slice A6 k1.len c6] 39), fun i u hu => ((Below.refl w6.heap.size w6).alloc (Nat.le_refl _) (.cells #[.string (txt a1.name), .int .i64 (a1.kind : Int), .int .i64 (a1.typ : Int), .int .u64 (a1.low : Int), .int .u64 (a1.high : Int), .slice B6 a1.names.length m6, .bool a1.must, .int .i64 (a1.most : Int), .slice A6 k1.len c6] 39)).cell (p := ⟨b, o + j * 9 + i, none⟩) (Nat.lt_trans HBL.out HP6.out.lt) |>.trans (HC6.out i u hu)⟩)
     clear hK K
     (try simp only [Act.put, layS])
     have HOA := Lib.hid (HO6.out.alloc (.cells #[.string (txt a1.name), .int .i64 (a1.kind : Int), .int .i64 (a1.typ : Int), .int .u64 (a1.low : Int), .int .u64 (a1.high : Int), .slice B6 a1.names.length m6, .bool a1.must, .int .i64 (a1.most : Int), .slice A6 k1.len c6] 39))
     have hown6 := ((HO.out.below stay_spc (Below.refl _ _).drew).below stay_spc HW6.out).below stay_spc ((Below.refl w6.heap.size w6).alloc (Nat.le_refl _) (.cells #[.string (txt a1.name), .int .i64 (a1.kind : Int), .int .i64 (a1.typ : Int), .int .u64 (a1.low : Int), .int .u64 (a1.high : Int), .slice B6 a1.names.length m6, .bool a1.must, .int .i64 (a1.most : Int), .slice A6 k1.len c6] 39))
     have HOWN := Lib.hid (hown6.widen stay_spc (S' := fun g => S' g ∨ Rng wr.heap.size w6.heap.size g) (N' := N) (fun g h => .inl h) (fun g h => h) (fun g h => h.elim (fun h => hown6.1 g h) (fun h => ⟨Nat.lt_of_lt_of_le h.2 (by simp), fun e => absurd (HO.out.lt g e.symm).2 (Nat.not_lt.2 h.1)⟩)) hown6.2.1)
     have HKA : Hid (FrN SpcD 9 8 (w6.alloc (.cells #[.string (txt a1.name), .int .i64 (a1.kind : Int), .int .i64 (a1.typ : Int), .int .u64 (a1.low : Int), .int .u64 (a1.high : Int), .slice B6 a1.names.length m6, .bool a1.must, .int .i64 (a1.most : Int), .slice A6 k1.len c6] 39)) (fun g => S' g ∨ Rng wr.heap.size w6.heap.size g) N [.string (txt a1.name), .int .i64 (a1.kind : Int), .int .i64 (a1.typ : Int), .int .u64 (a1.low : Int), .int .u64 (a1.high : Int), .slice B6 a1.names.length m6, .bool a1.must, .int .i64 (a1.most : Int), .slice A6 k1.len c6] a1 k1) := Lib.hid (FrN.kept stay_spc HK6.out (fun g hg => ((Below.refl w6.heap.size w6).alloc (Nat.le_refl _) (.cells #[.string (txt a1.name), .int .i64 (a1.kind : Int), .int .i64 (a1.typ : Int), .int .u64 (a1.low : Int), .int .u64 (a1.high : Int), .slice B6 a1.names.length m6, .bool a1.must, .int .i64 (a1.most : Int), .slice A6 k1.len c6] 39)).block g hg.2) (fun g hg => .inr hg) (fun g hg => ((Below.refl w6.heap.size w6).alloc (Nat.le_refl _) (.cells #[.string (txt a1.name), .int .i64 (a1.kind : Int), .int .i64 (a1.typ : Int), .int .u64 (a1.low : Int), .int .u64 (a1.high : Int), .slice B6 a1.names.length m6, .bool a1.must, .int .i64 (a1.most : Int), .slice A6 k1.len c6] 39)).block g (Nat.lt_trans (HN.out g hg) HP6.out.lt)) (fun _ h => h))
     clear hown6
     refine wpAnyH_ready (rs := [9]) (by kernel_rfl) (by simp) ?_
     refine (AllReadyH.cons (o := ?or_g) ?ir_g (fun K hK => ?str_g) AllReadyH.nil)
     case ir_g => simp only [layG]; rfl
     rw [if_pos (by rfl)]
     refine wp_append_g (ys := [.string (txt a1.name), .int .i64 (a1.kind : Int), .int .i64 (a1.typ : Int), .int .u64 (a1.low : Int), .int .u64 (a1.high : Int), .slice B6 a1.names.length m6, .bool a1.must, .int .i64 (a1.most : Int), .slice A6 k1.len c6]) stay_spc one_spc Tryd.underlying37 infoS zeroS (by decide) (.tmp 30) (.tmp 37) (by rfl) (by rfl) (by rfl) HOWN.out (by rfl) (Blk.new w6 _ _) HKA.out ?_ ?_ ?_ ?_
     ·rw [Fr.len_take j k hj]; have := Fr.len_size k; have := HZ.out; omega
     ·rw [Fr.len_take j k hj]; have := Fr.len_size k; have := HZ.out; omega
     ·exact Nat.le_trans HOA.out.lt (Nat.le_refl _)
     intro v20 w20 hap
     obtain ⟨g20, c20, e20⟩ := hap.2.2.2
     rw [← HTK.out, Fr.len_take (j + 1) k (by omega)] at e20
     subst e20
     have hb20 := hap.below HOWN.out HOA.out.lt
     have HB20 : Hid (Below w.heap.size w w20) := Lib.hid ((HB6.out.alloc HB6.out.size _).trans (hb20.mono (by omega)))
     have HP20 := Lib.hid ((HP6.out.alloc (.cells #[.string (txt a1.name), .int .i64 (a1.kind : Int), .int .i64 (a1.typ : Int), .int .u64 (a1.low : Int), .int .u64 (a1.high : Int), .slice B6 a1.names.length m6, .bool a1.must, .int .i64 (a1.most : Int), .slice A6 k1.len c6] 39)).below hb20 (by omega))
     have HZ20 := Lib.hid ((HZ6.out.alloc (.cells #[.string (txt a1.name), .int .i64 (a1.kind : Int), .int .i64 (a1.typ : Int), .int .u64 (a1.low : Int), .int .u64 (a1.high : Int), .slice B6 a1.names.length m6, .bool a1.must, .int .i64 (a1.most : Int), .slice A6 k1.len c6] 39)).below hb20 (by omega))
     have HO20 := Lib.hid (HOA.out.below hb20 (by omega))
     have HAP := Lib.hid hap.1
     refine hK.out _ _ ?sr_g (fun hS => ?_)
     case sr_g => (exact ⟨HP20.out, fun i u hu => (hb20.cell (p := ⟨b, o + j * 9 + i, none⟩) (Nat.lt_of_lt_of_le HBL.out (by omega))).trans (hS.2 i u hu)⟩)
     clear hK K
     (try simp only [Act.put, layS])
     clear hap hb20
     refine wpAnyH_take (i := 10) (oi := ?o_h) (v := ?v_h) ?i_h (by kernel_rfl) (by kernel_rfl) (by kernel_rfl) (fun _ _ _ h => h) (Or.inl ⟨?g_h, ?y_h⟩) hS ?_
     case i_h => simp only [layG]; rfl
     case g_h => rfl
     case y_h => (intro w hSw; (go_simp <;> with_reducible rfl))
     (try simp only [Act.put, layS])
     refine wpAnyH_ready (rs := [11]) (by kernel_rfl) (by simp) ?_
     refine (AllReadyH.cons (o := ?or_i) ?ir_i (fun K hK => ?str_i) AllReadyH.nil)
     case ir_i => simp only [layG]; rfl
     rw [if_pos (by rfl)]
     have f8 := HO20.out.frozen 8
     have q8 := (HO20.out.cell 8).trans rfl
     go_simp
     refine hK.out _ _ ?sr_i (fun hS => ?_)
     case sr_i => (exact ⟨hS.1.far (by show w.heap.size ≠ w.heap.size + 1 + 1; omega) _, fun i u hu => (World.cell?_setCell_other _ _ _ _ (by intro h; injection h with h1 h2; have := HBL.out; omega)).trans (hS.2 i u hu)⟩)
     clear hK K
     (try simp only [Act.put, layS])
     refine wpAnyH_done (by kernel_rfl) ?_ _
     refine NoPanic.normal ?_
    case' str_e =>
     rw [if_pos (by rfl)]
     go_simp
     refine hK.out _ _ ?sr_e (fun hS => ?_)
     case sr_e => (exact ⟨HP6.out.alloc (.cells #[.string (txt a1.name), .int .i64 (a1.kind : Int), .int .i64 (a1.typ : Int), .int .u64 (a1.low : Int), .int .u64 (a1.high : Int), .slice B6 a1.names.length m6, .bool a1.must, .int .i64 (a1.most : Int), .slice A6 k1.len c6] 39), fun i u hu => ((Below.refl w6.heap.size w6).alloc (Nat.le_refl _) (.cells #[.string (txt a1.name), .int .i64 (a1.kind : Int), .int .i64 (a1.typ : Int), .int .u64 (a1.low : Int), .int .u64 (a1.high : Int), .slice B6 a1.names.length m6, .bool a1.must, .int .i64 (a1.most : Int), .slice A6 k1.len c6] 39)).cell (p := ⟨b, o + j * 9 + i, none⟩) (Nat.lt_trans HBL.out HP6.out.lt) |>.trans (HC6.out i u hu)⟩)
     clear hK K
     (try simp only [Act.put, layS])
     have HOA := Lib.hid (HO6.out.alloc (.cells #[.string (txt a1.name), .int .i64 (a1.kind : Int), .int .i64 (a1.typ : Int), .int .u64 (a1.low : Int), .int .u64 (a1.high : Int), .slice B6 a1.names.length m6, .bool a1.must, .int .i64 (a1.most : Int), .slice A6 k1.len c6] 39))
     have hown6 := ((HO.out.below stay_spc (Below.refl _ _).drew).below stay_spc HW6.out).below stay_spc ((Below.refl w6.heap.size w6).alloc (Nat.le_refl _) (.cells #[.string (txt a1.name), .int .i64 (a1.kind : Int), .int .i64 (a1.typ : Int), .int .u64 (a1.low : Int), .int .u64 (a1.high : Int), .slice B6 a1.names.length m6, .bool a1.must, .int .i64 (a1.most : Int), .slice A6 k1.len c6] 39))
     have HOWN := Lib.hid (hown6.widen stay_spc (S' := fun g => S' g ∨ Rng wr.heap.size w6.heap.size g) (N' := N) (fun g h => .inl h) (fun g h => h) (fun g h => h.elim (fun h => hown6.1 g h) (fun h => ⟨Nat.lt_of_lt_of_le h.2 (by simp), fun e => absurd (HO.out.lt g e.symm).2 (Nat.not_lt.2 h.1)⟩)) hown6.2.1)
     have HKA : Hid (FrN SpcD 9 8 (w6.alloc (.cells #[.string (txt a1.name), .int .i64 (a1.kind : Int), .int .i64 (a1.typ : Int), .int .u64 (a1.low : Int), .int .u64 (a1.high : Int), .slice B6 a1.names.length m6, .bool a1.must, .int .i64 (a1.most : Int), .slice A6 k1.len c6] 39)) (fun g => S' g ∨ Rng wr.heap.size w6.heap.size g) N [.string (txt a1.name), .int .i64 (a1.kind : Int), .int .i64 (a1.typ : Int), .int .u64 (a1.low : Int), .int .u64 (a1.high : Int), .slice B6 a1.names.length m6, .bool a1.must, .int .i64 (a1.most : Int), .slice A6 k1.len c6] a1 k1) := Lib.hid (FrN.kept stay_spc HK6.out (fun g hg => ((Below.refl w6.heap.size w6).alloc (Nat.le_refl _) (.cells #[.string (txt a1.name), .int .i64 (a1.kind : Int), .int .i64 (a1.typ : Int), .int .u64 (a1.low : Int), .int .u64 (a1.high : Int), .slice B6 a1.names.length m6, .bool a1.must, .int .i64 (a1.most : Int), .slice A6 k1.len c6] 39)).block g hg.2) (fun g hg => .inr hg) (fun g hg => ((Below.refl w6.heap.size w6).alloc (Nat.le_refl _) (.cells #[.string (txt a1.name), .int .i64 (a1.kind : Int), .int .i64 (a1.typ : Int), .int .u64 (a1.low : Int), .int .u64 (a1.high : Int), .slice B6 a1.names.length m6, .bool a1.must, .int .i64 (a1.most : Int), .slice A6 k1.len c6] 39)).block g (Nat.lt_trans (HN.out g hg) HP6.out.lt)) (fun _ h => h))
     clear hown6
     refine wpAnyH_ready (rs := [1]) (by kernel_rfl) (by simp) ?_
     refine (AllReadyH.cons (o := ?or_j) ?ir_j (fun K hK => ?str_j) AllReadyH.nil)
     case ir_j => simp only [layG]; rfl
     rw [if_pos (by rfl)]
     have q8 := (HO6.out.cell 8).trans rfl
     have q8a := (HOA.out.cell 8).trans rfl
     go_simp
     refine hK.out _ _ ?sr_j (fun hS => ?_)
     case sr_j => (exact hS)
     clear hK K
     (try simp only [Act.put, layS])
     refine wpAnyH_ready (rs := [9]) (by kernel_rfl) (by simp) ?_
     refine (AllReadyH.cons (o := ?or_k) ?ir_k (fun K hK => ?str_k) AllReadyH.nil)
     case ir_k => simp only [layG]; rfl
     rw [if_pos (by rfl)]
     refine wp_append_g (ys := [.string (txt a1.name), .int .i64 (a1.kind : Int), .int .i64 (a1.typ : Int), .int .u64 (a1.low : Int), .int .u64 (a1.high : Int), .slice B6 a1.names.length m6, .bool a1.must, .int .i64 (a1.most : Int), .slice A6 k1.len c6]) stay_spc one_spc Tryd.underlying37 infoS zeroS (by decide) (.tmp 30) (.tmp 37) (by rfl) (by rfl) (by rfl) HOWN.out (by rfl) (Blk.new w6 _ _) HKA.out ?_ ?_ ?_ ?_
     ·rw [Fr.len_take j k hj]; have := Fr.len_size k; have := HZ.out; omega
     ·rw [Fr.len_take j k hj]; have := Fr.len_size k; have := HZ.out; omega
     ·exact Nat.le_trans HOA.out.lt (Nat.le_refl _)
     intro v20 w20 hap
     obtain ⟨g20, c20, e20⟩ := hap.2.2.2
     rw [← HTK.out, Fr.len_take (j + 1) k (by omega)] at e20
     subst e20
     have hb20 := hap.below HOWN.out HOA.out.lt
     have HB20 : Hid (Below w.heap.size w w20) := Lib.hid ((HB6.out.alloc HB6.out.size _).trans (hb20.mono (by omega)))
     have HP20 := Lib.hid ((HP6.out.alloc (.cells #[.string (txt a1.name), .int .i64 (a1.kind : Int), .int .i64 (a1.typ : Int), .int .u64 (a1.low : Int), .int .u64 (a1.high : Int), .slice B6 a1.names.length m6, .bool a1.must, .int .i64 (a1.most : Int), .slice A6 k1.len c6] 39)).below hb20 (by omega))
     have HZ20 := Lib.hid ((HZ6.out.alloc (.cells #[.string (txt a1.name), .int .i64 (a1.kind : Int), .int .i64 (a1.typ : Int), .int .u64 (a1.low : Int), .int .u64 (a1.high : Int), .slice B6 a1.names.length m6, .bool a1.must, .int .i64 (a1.most : Int), .slice A6 k1.len c6] 39)).below hb20 (by omega))
     have HO20 := Lib.hid (HOA.out.below hb20 (by omega))
     have HAP := Lib.hid hap.1
     refine hK.out _ _ ?sr_k (fun hS => ?_)
     case sr_k => (exact ⟨HP20.out, fun i u hu => (hb20.cell (p := ⟨b, o + j * 9 + i, none⟩) (Nat.lt_of_lt_of_le HBL.out (by omega))).trans (hS.2 i u hu)⟩)
     clear hK K
     (try simp only [Act.put, layS])
     clear hap hb20
     refine wpAnyH_take (i := 10) (oi := ?o_l) (v := ?v_l) ?i_l (by kernel_rfl) (by kernel_rfl) (by kernel_rfl) (fun _ _ _ h => h) (Or.inl ⟨?g_l, ?y_l⟩) hS ?_
     case i_l => simp only [layG]; rfl
     case g_l => rfl
     case y_l => (intro w hSw; (go_simp <;> with_reducible rfl))
     (try simp only [Act.put, layS])
     refine wpAnyH_ready (rs := [11]) (by kernel_rfl) (by simp) ?_
     refine (AllReadyH.cons (o := ?or_m) ?ir_m (fun K hK => ?str_m) AllReadyH.nil)
     case ir_m => simp only [layG]; rfl
     rw [if_pos (by rfl)]
     have f8 := HO20.out.frozen 8
     have q8 := (HO20.out.cell 8).trans rfl
     go_simp
     refine hK.out _ _ ?sr_m (fun hS => ?_)
     case sr_m => (exact ⟨hS.1.far (by show w.heap.size ≠ w.heap.size + 1 + 1; omega) _, fun i u hu => (World.cell?_setCell_other _ _ _ _ (by intro h; injection h with h1 h2; have := HBL.out; omega)).trans (hS.2 i u hu)⟩)
     clear hK K
     (try simp only [Act.put, layS])
     refine wpAnyH_done (by kernel_rfl) ?_ _
     refine NoPanic.normal ?_
   all_goals
    have HO21 := Lib.hid (HO20.out.set_ 8 (.slice (some ⟨g20, 0, none⟩) (j + 1) c20))
    have HP21 := Lib.hid (HP20.out.far (p := ⟨w.heap.size + 1 + 1, 8, none⟩) (by show w.heap.size ≠ w.heap.size + 1 + 1; omega) (.slice (some ⟨g20, 0, none⟩) (j + 1) c20))
    have HZ21 := Lib.hid (HZ20.out.far (p := ⟨w.heap.size + 1 + 1, 8, none⟩) (by show w.heap.size + 1 ≠ w.heap.size + 1 + 1; omega) (.slice (some ⟨g20, 0, none⟩) (j + 1) c20))
    have HB21 := Lib.hid (HB20.out.setCell (p := ⟨w.heap.size + 1 + 1, 8, none⟩) (by show w.heap.size ≤ w.heap.size + 1 + 1; omega) (.slice (some ⟨g20, 0, none⟩) (j + 1) c20))
    have HS21 : Hid (∀ g, (S' g ∨ Rng wr.heap.size w6.heap.size g) → w.heap.size + 3 ≤ g) := Lib.hid (fun g h => h.elim (HS'.out g) (fun h => Nat.le_trans HOB.out.lt h.1))
    have HOW : Hid (OwnG SpcD 39 9 8 (w20.setCell ⟨w.heap.size + 1 + 1, 8, none⟩ (.slice (some ⟨g20, 0, none⟩) (j + 1) c20)) (w.heap.size + 3) (fun g => S' g ∨ Rng wr.heap.size w6.heap.size g) N (.slice (some ⟨g20, 0, none⟩) (j + 1) c20) (Fr.take (j + 1) k)) := Lib.hid (by
     rw [HTK.out]
     refine HAP.out.grown stay_spc (row := some (w.heap.size + 1 + 1)) (grown_set _) ?_ (fun g h e => ?_) (fun g h e => ?_)
     ·refine .inr (fun e2 => ?_)
      have e3 : g20 = w.heap.size + 1 + 1 := Option.some.inj e2
      have := (HAP.out.lt g20 rfl).1
      omega
     ·injection e with e; have := HS21.out g h; omega
     ·injection e with e; have := HN.out g h; omega)
    clear hS
    go_wp2
    go_roundw
    case rel => exact ⟨j + 1, (.slice (some ⟨g20, 0, none⟩) (j + 1) c20), _, by omega, by go_num, HS21, HOW, HP21.out, HZ21.out, HO21.out, HB21.out⟩
    case measure => simp [intOf]; omega
  ·obtain rfl : j = k.len := by omega
   have hfv := HO.out.frv stay_spc
   rw [Fr.take_all] at hfv
   obtain ⟨A3, c3, rfl⟩ := hfv.shape
   have HE : Hid (Below w.heap.size w (set9 wr (w.heap.size + 1) (.string (txt a.name)) (.int .i64 (a.kind : Int)) (.int .i64 (a.typ : Int)) (.int .u64 (a.low : Int)) (.int .u64 (a.high : Int)) (.slice B a.names.length m) (.bool a.must) (.int .i64 (a.most : Int)) (.slice A3 k.len c3))) := Lib.hid (HB.out.trans (set9_below (by omega)))
   have RE : Hid (Blk (set9 wr (w.heap.size + 1) (.string (txt a.name)) (.int .i64 (a.kind : Int)) (.int .i64 (a.typ : Int)) (.int .u64 (a.low : Int)) (.int .u64 (a.high : Int)) (.slice B a.names.length m) (.bool a.must) (.int .i64 (a.most : Int)) (.slice A3 k.len c3)) (w.heap.size + 1) 39 #[.string (txt a.name), .int .i64 (a.kind : Int), .int .i64 (a.typ : Int), .int .u64 (a.low : Int), .int .u64 (a.high : Int), .slice B a.names.length m, .bool a.must, .int .i64 (a.most : Int), .slice A3 k.len c3]) := Lib.hid (HZB.out.set9 _ _ _ _ _ _ _ _ _)
   have KE : Hid (SpN (set9 wr (w.heap.size + 1) (.string (txt a.name)) (.int .i64 (a.kind : Int)) (.int .i64 (a.typ : Int)) (.int .u64 (a.low : Int)) (.int .u64 (a.high : Int)) (.slice B a.names.length m) (.bool a.must) (.int .i64 (a.most : Int)) (.slice A3 k.len c3)) (Rng w.heap.size (set9 wr (w.heap.size + 1) (.string (txt a.name)) (.int .i64 (a.kind : Int)) (.int .i64 (a.typ : Int)) (.int .u64 (a.low : Int)) (.int .u64 (a.high : Int)) (.slice B a.names.length m) (.bool a.must) (.int .i64 (a.most : Int)) (.slice A3 k.len c3)).heap.size) N [.string (txt a.name), .int .i64 (a.kind : Int), .int .i64 (a.typ : Int), .int .u64 (a.low : Int), .int .u64 (a.high : Int), .slice B a.names.length m, .bool a.must, .int .i64 (a.most : Int), .slice A3 k.len c3] (a, k)) := Lib.hid (by
    refine SpN.make (d := dn) (HV.out.heap (fun h0 => HE.out.block dn (HN.out dn (HNN.out (by rwa [txts_len] at h0))))) HNN.out (hfv.kept stay_spc (fun g hg => set9_other (fun e => ?_)) (fun g hg => ?_) (fun g hg => set9_other (fun e => ?_)) (fun _ h => h))
    ·rcases hg with hg | hg
     ·have := HS'.out g hg; omega
     ·have := (HO.out.lt g hg).1; omega
    ·rw [set9_size]
     rcases hg with hg | hg
     ·exact ⟨by have := HS'.out g hg; omega, (HO.out.1 g hg).1⟩
     ·exact ⟨by have := (HO.out.lt g hg).1; omega, (HO.out.lt g hg).2⟩
    ·have := HN.out g hg; omega)
   clear hfv hP hZ hO hB hlt
   have q0 := (HOB.out.cell 0).trans rfl
   have q1 := (HOB.out.cell 1).trans rfl
   have q2 := (HOB.out.cell 2).trans rfl
   have q3 := (HOB.out.cell 3).trans rfl
   have q4 := (HOB.out.cell 4).trans rfl
   have q5 := (HOB.out.cell 5).trans rfl
   have q6 := (HOB.out.cell 6).trans rfl
   have q7 := (HOB.out.cell 7).trans rfl
   have q8 := (HOB.out.cell 8).trans rfl
   have f0 := HZB.out.frozen 0
   have r0 := (HZB.out.cell 0).trans rfl
   have f1 := HZB.out.frozen 1
   have r1 := (HZB.out.cell 1).trans rfl
   have f2 := HZB.out.frozen 2
   have r2 := (HZB.out.cell 2).trans rfl
   have f3 := HZB.out.frozen 3
   have r3 := (HZB.out.cell 3).trans rfl
   have f4 := HZB.out.frozen 4
   have r4 := (HZB.out.cell 4).trans rfl
   have f5 := HZB.out.frozen 5
   have r5 := (HZB.out.cell 5).trans rfl
   have f6 := HZB.out.frozen 6
   have r6 := (HZB.out.cell 6).trans rfl
   have f7 := HZB.out.frozen 7
   have r7 := (HZB.out.cell 7).trans rfl
   have f8 := HZB.out.frozen 8
   have r8 := (HZB.out.cell 8).trans rfl
   go_wp2
   refine bodyPost_ret (results_cell_row rfl _ _ (w.heap.size + 1) 39 _ (0, 0) _ rfl RE.out Tryd.underlying39 rfl (by kernel_rfl)) rfl ?_
   exact ⟨_, rfl, KE.out, HE.out⟩
end Go.Proofs.YtikmilcdibldhaaDoor
