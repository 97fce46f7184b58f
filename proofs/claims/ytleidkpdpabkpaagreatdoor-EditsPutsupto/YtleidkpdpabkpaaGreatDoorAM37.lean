/- TlvFnH TlvC -/
import Derived.Test.YtleidkpdpabkpaaGreatDoorAM36
set_option linter.unusedSimpArgs false
set_option linter.unusedVariables false
set_option maxRecDepth 100000
set_option maxHeartbeats 8000000
namespace Go.Proofs.YtleidkpdpabkpaaGreatDoor
open Go.RowKit
theorem Tryz.infoT : (Tryz.prog.info? 58).map (fun i => (i.zero, i.size, i.bytes)) = some (some (.agg #[.int .u64 0, .slice none 0 0, .slice none 0 0]), 3, 56) := by kernel_rfl
theorem zeroTI : (Value.agg #[.int .u64 0, .slice none 0 0, .slice none 0 0]).cells.size = 3 := by kernel_rfl
def SelfD (w : World) (eb : Nat) : Prop := Blk w eb 94 #[.func (.func 55) #[] #[.pointer (some ⟨eb, 0, none⟩)]]
def DecP (x : Fo × Int × Nat) (g : Nat) (w : World) (r : Ending) (w' : World) : Prop :=
 ∃ v, r = .returned (.tuple #[v, .int .i64 x.2.1, .int .i64 (x.2.2 : Int)]) ∧ FV DataI w' (MineI w.heap.size w') v x.1 ∧ w.grownBy w' (some g)
theorem DecP.err {x : Fo × Int × Nat} {e : Int} {o g : Nat} {w w' : World} (hx : x = (.nil, e, o)) (hb : w.grownBy w' (some g)) : DecP x g w (.returned (.tuple #[.slice none 0 0, .int .i64 e, .int .i64 (o : Int)])) w' := by
 subst hx
 exact ⟨_, rfl, FV.nil _ _, hb⟩
theorem Win.kept {w w' : World} {g d : Nat} {l : List UInt8} {e : Int} (h : Win w g d l e) (hg : w'.heap[g]? = w.heap[g]?) (hd : d < w.heap.size → w'.heap[d]? = w.heap[d]?) : Win w' g d l e := by
 obtain ⟨v, h1, h2⟩ := h
 exact ⟨v, hg.trans h1, h2.heap' hd⟩
theorem OwnF.kept {D : World → (Nat → Prop) → Value → List UInt8 → Prop} {e : TypeId} {w w' : World} {base : Nat} {v : Value} {f : Fo} (hD : Stays D) (h : OwnF D e w base v f) (hz : w.heap.size ≤ w'.heap.size) (hk : ∀ k, base ≤ k → k < w.heap.size → w'.heap[k]? = w.heap[k]?) : OwnF D e w' base v f := by
 obtain ⟨xs, h1, h2⟩ := h
 have hlt := fun k hk => World.ownsRow.lt h1 k hk
 refine ⟨xs, ?_, h2.kept hD (fun g hg => hk g hg.1 hg.2.1) (fun g hg => ⟨hg.1, Nat.lt_of_lt_of_le hg.2.1 hz, hg.2.2⟩)⟩
 refine ⟨h1.1, ?_⟩
 rcases h1.2 with hn | ⟨g, cap, cur, rfl, hb, hgg, rest⟩
 ·exact .inl hn
 ·exact .inr ⟨g, cap, cur, rfl, hb, (hk g hb (hlt g rfl).2).trans hgg, rest⟩
theorem grown_new {a b c : World} {g h : Nat} (p : a.grownBy b (some g)) (q : b.grownBy c (some h)) (hh : a.heap.size ≤ h) : a.grownBy c (some g) := p.andThen q (fun j e => by injection e with e; exact .inl (by omega))
def DecAt (n : Nat) : Prop := ∀ (s : List UInt8) (deep at_ : Nat) (w : World) (g d eb : Nat) (en dI : Int), Win w g d s 0 → d ≠ g → d < w.heap.size → s.length ≤ n → at_ + s.length ≤ 100000 → deep ≤ 7 → en = ((at_ + s.length : Nat) : Int) → dI = (deep : Int) → SelfD w eb → eb ≠ g →
  Calls Tryz.prog 55 #[.pointer (some ⟨g, 0, none⟩), .int .i64 en, .int .i64 dI, .pointer (some ⟨eb, 0, none⟩)] w (DecP (gt n s deep at_) g w)
theorem dec_any (n : Nat) : DecAt n := by
 induction n using Nat.strongRecOn with
 | ind n ih =>
 intro s deep at_ w g d eb en dI hwin hdg hdw hn hs hdeep hen hdI hself hebg
 subst hdI
 obtain ⟨N, hN⟩ : ∃ N, N = at_ + s.length := ⟨_, rfl⟩
 rw [← hN] at hen
 subst hen
 have HI : Hid (∀ m, m < n → DecAt m) := hHd ih
 obtain ⟨G, hG⟩ : ∃ G, G = gt n s deep at_ := ⟨_, rfl⟩
 rw [← hG]
 have HG0 : Hid (G = joinF .nil (gt n s deep at_)) := hHd (by rw [joinF_nil]; exact hG)
 have hN5 : N ≤ 100000 := by omega
 have HN := hHd hN
 have HSELF := hHd hself
 have HLT : Hid (g < w.heap.size) := hHd hwin.lt
 have HEB : Hid (eb < w.heap.size) := hHd (Blk.lt hself)
 have HWIN := hHd hwin
 have HSN := hHd hn
 have HSS := hHd hs
 clear ih hG hN hself hwin hn hs
 go_enter Tryz.func55, Tryz.ntmps55
 go_wp2
 go_loopw [10] (fun u wr => ∃ (m : Nat) (s' : List UInt8) (at' : Nat) (p : Fo), m ≤ n ∧ s'.length ≤ m ∧ at' + s'.length = N ∧ p.len + s'.length ≤ 100000 ∧ Hid (G = joinF p (gt m s' deep at')) ∧ Hid (Win wr g d s' 0) ∧ OwnF DataI 58 wr w.heap.size u p ∧ Hid (w.grownBy wr (some g))) (fun u _ => match u with | .slice _ k _ => 200000 - k | _ => 0)
 case atStart => exact ⟨n, s, at_, .nil, Nat.le_refl _, HSN.out, HN.out.symm, by have := HSS.out; simp only [Fo.len]; omega, HG0, HWIN, OwnF.nil _ _, hHd (World.grownBy.refl _ _)⟩
 case round =>
  obtain ⟨m, s', at', p, hmn, hsm, hs5, hp5, HG, HW, hown, HGR⟩ := hrel
  clear HWIN HSN HSS HG0 HN
  obtain ⟨Au, cu, rfl⟩ := (hown.fv stays_I).shape
  have HOWN := hHd hown
  have hdwr : d < wr.heap.size := by have := HGR.out.size; omega
  have HN : Hid (at' + s'.length = N) := hHd hs5
  have hBg : (N : Int) - (s'.length : Int) = (at' : Int) := by omega
  have h15 : s'.length ≤ 100000 := by omega
  have h25 : at' ≤ 100000 := by omega
  clear hs5 hown
  by_cases hs0 : s' = []
  ·subst hs0
   have hGe : G = (p, 0, 0) := by rw [HG.out, gt_nil]; unfold joinF; rw [if_pos rfl, Fo.app_nil]
   have HP : Hid (DecP G g w (.returned (.tuple #[.slice Au p.len cu, .int .i64 0, .int .i64 0])) wr) := hHd (by rw [hGe]; exact ⟨_, rfl, HOWN.out.fv stays_I, HGR.out⟩)
   clear hGe hBg
   go_wp2_with fail
   refine (left_any g d [] 0 _ HW.out).mono ?_
   rintro r w1 ⟨rfl, rfl⟩
   go_wp2
   go_ret3
   exact HP.out
  ·have hpos : 0 < s'.length := List.length_pos_iff.2 hs0
   obtain ⟨m, rfl⟩ : ∃ m', m = m' + 1 := ⟨m - 1, by omega⟩
   obtain ⟨t, a, e, h1⟩ : ∃ t a e, getV s' = (t, a, e) := ⟨_, _, _, rfl⟩
   obtain ⟨s1, hs1⟩ : ∃ s1, s1 = s'.drop a := ⟨_, rfl⟩
   obtain ⟨L, b, e2, h2⟩ : ∃ t b e, getV s1 = (t, b, e) := ⟨_, _, _, rfl⟩
   have hG := HG.out
   rw [gt_step hs0 h1 (hs1 ▸ h2)] at hG
   clear HG
   have hNI : (N : Int) = ((at' + s'.length : Nat) : Int) := by have := HN.out; omega
   have hN1 : at' + s'.length ≤ 100000 := by have := HN.out; omega
   by_cases c1 : e ≠ 0
   ·rw [if_pos c1] at hG
    have hb1 : (e == 0) = false := by simpa using c1
    have hb2 : (e != 0) = true := by simpa using c1
    have HP : Hid (∀ w', w.grownBy w' (some g) → DecP G g w (.returned (.tuple #[.slice none 0 0, .int .i64 e, .int .i64 (at' : Int)])) w') := hHd (fun w' hb => DecP.err (by rw [hG]; unfold joinF; rw [if_neg c1]) hb)
    have HC := hHd (head_tag g d s' at' t a e N wr HW.out hdg hdwr hN1 hNI h1 c1)
    clear hG c1 h1 h2 hs0 hs1 hNI hN1
    go_wp2_with fail
    refine (left_any g d s' 0 _ HW.out).mono ?_
    rintro r w1 ⟨rfl, rfl⟩
    go_wp2_with fail
    refine (left_any g d s' 0 _ HW.out).mono ?_
    rintro r w1 ⟨rfl, rfl⟩
    go_wp2_with fail
    refine HC.out.mono ?_
    rintro r w1 ⟨rfl, hg1⟩
    have HE := hHd (HP.out _ (grown_alloc (HGR.out.trans hg1) (.cells #[.int .u64 0, .slice none 0 0, .slice none 0 0] 58)))
    clear hg1 HP
    go_wp2
    go_ret3
    exact HE.out
   rw [if_neg c1] at hG
   obtain rfl : e = 0 := Decidable.not_not.1 c1
   have o1 := getV_own s' (by rw [h1])
   rw [h1] at o1
   obtain ⟨a1, a2, -, t64, -⟩ := o1
   dsimp only at a1 a2 t64
   have hl1 : s1.length = s'.length - a := by rw [hs1]; exact List.length_drop
   obtain ⟨s2, hs2⟩ : ∃ s2, s2 = s1.drop b := ⟨_, rfl⟩
   by_cases c2 : e2 ≠ 0
   ·rw [if_pos c2] at hG
    have hb1 : (e2 == 0) = false := by simpa using c2
    have hb2 : (e2 != 0) = true := by simpa using c2
    have HP : Hid (∀ w', w.grownBy w' (some g) → DecP G g w (.returned (.tuple #[.slice none 0 0, .int .i64 e2, .int .i64 ((at' + a : Nat) : Int)])) w') := hHd (fun w' hb => DecP.err (o := at' + a) (by rw [hG]; unfold joinF; rw [if_neg c2]) hb)
    obtain ⟨o, ho⟩ : ∃ o, o = at' + a := ⟨_, rfl⟩
    have HC := hHd (head_len g d s' s1 s2 at' t a L b e2 N wr HW.out hdg hdwr hN1 hNI h1 hs1 h2 hs2 c2)
    rw [← ho] at HP HC
    clear hG c1 c2 h1 h2 hs0 hs1 hs2 hNI hN1 hl1 t64 ho
    go_wp2_with fail
    refine (left_any g d s' 0 _ HW.out).mono ?_
    rintro r w1 ⟨rfl, rfl⟩
    go_wp2_with fail
    refine (left_any g d s' 0 _ HW.out).mono ?_
    rintro r w1 ⟨rfl, rfl⟩
    go_wp2_with fail
    refine HC.out.mono ?_
    rintro r w1 ⟨rfl, hg1⟩
    have HE := hHd (HP.out _ (grown_alloc (HGR.out.trans hg1) (.cells #[.int .u64 0, .slice none 0 0, .slice none 0 0] 58)))
    clear hg1 HP
    go_wp2
    go_ret3
    exact HE.out
   rw [if_neg c2] at hG
   obtain rfl : e2 = 0 := Decidable.not_not.1 c2
   have o2 := getV_own s1 (by rw [h2])
   rw [h2] at o2
   obtain ⟨b1, b2, -, l64, -⟩ := o2
   dsimp only at b1 b2 l64
   have hl2 : s2.length = s1.length - b := by rw [hs2]; exact List.length_drop
   by_cases c3 : s'.length - a - b < L
   ·rw [if_pos c3] at hG
    have HP : Hid (∀ w', w.grownBy w' (some g) → DecP G g w (.returned (.tuple #[.slice none 0 0, .int .i64 10, .int .i64 ((at' + a + b : Nat) : Int)])) w') := hHd (fun w' hb => DecP.err (o := at' + a + b) (by rw [hG]; rfl) hb)
    obtain ⟨o, ho⟩ : ∃ o, o = at' + a + b := ⟨_, rfl⟩
    have HC := hHd (head_short g d s' s1 s2 at' t a L b 0 N wr HW.out hdg hdwr hN1 hNI h1 hs1 h2 hs2 rfl c3)
    rw [← ho] at HP HC
    clear hG c1 c2 c3 h1 h2 hs0 hs1 hs2 hNI hN1 hl1 hl2 t64 l64 ho
    go_wp2_with fail
    refine (left_any g d s' 0 _ HW.out).mono ?_
    rintro r w1 ⟨rfl, rfl⟩
    go_wp2_with fail
    refine (left_any g d s' 0 _ HW.out).mono ?_
    rintro r w1 ⟨rfl, rfl⟩
    go_wp2_with fail
    refine HC.out.mono ?_
    rintro r w1 ⟨rfl, hg1⟩
    have HE := hHd (HP.out _ (grown_alloc (HGR.out.trans hg1) (.cells #[.int .u64 0, .slice none 0 0, .slice none 0 0] 58)))
    clear hg1 HP
    go_wp2
    go_ret3
    exact HE.out
   rw [if_neg c3] at hG
   obtain ⟨C, hC⟩ : ∃ C, C = s2.take L := ⟨_, rfl⟩
   obtain ⟨s3, hs3⟩ : ∃ s3, s3 = s2.drop L := ⟨_, rfl⟩
   have hCl : C.length = L := by rw [hC, List.length_take]; omega
   have hs3l : s3.length = s'.length - (a + b + L) := by rw [hs3, List.length_drop]; omega
   have hC0 : C = (s'.drop (a + b)).take L := by rw [hC, hs2, hs1, List.drop_drop]
   have hs30 : s3 = s'.drop (a + b + L) := by rw [hs3, hs2, hs1, List.drop_drop, List.drop_drop, Nat.add_assoc]
   have habL : a + b + L ≤ s'.length := by omega
   rw [← hC0, ← hs30] at hG
   have HC := hHd (head_ok g d s' s1 s2 at' t a L b 0 N wr HW.out hdg hdwr hN1 hNI h1 hs1 h2 hs2 rfl (by omega) C s3 hC hs3)
   have HT64 := hHd t64
   have hCl1 : C.length ≤ L := by omega
   have hCl2 : L ≤ C.length := by omega
   have hs31 : s3.length + (a + b + L) ≤ s'.length := by omega
   have hs32 : s'.length ≤ s3.length + (a + b + L) := by omega
   clear c1 c2 c3 h1 h2 hs0 hs1 hs2 hNI hl1 hl2 t64 l64 hC hs3 hC0 hs30 hCl hs3l
   by_cases c4 : 6 < deep
   ·rw [if_pos c4] at hG
    have hdb2 : decide ((6 : Int) < (deep : Int)) = true := decide_eq_true (by omega)
    have HP : Hid (∀ w', w.grownBy w' (some g) → DecP G g w (.returned (.tuple #[.slice none 0 0, .int .i64 13, .int .i64 (at' : Int)])) w') := hHd (fun w' hb => DecP.err (o := at') (by rw [hG]; rfl) hb)
    clear hG c4
    go_wp2_with fail
    refine (left_any g d s' 0 _ HW.out).mono ?_
    rintro r w1 ⟨rfl, rfl⟩
    go_wp2_with fail
    refine (left_any g d s' 0 _ HW.out).mono ?_
    rintro r w1 ⟨rfl, rfl⟩
    go_wp2_with fail
    refine HC.out.mono ?_
    rintro r w1 ⟨n1, rfl, -, -, -, hg1⟩
    have HE := hHd (HP.out _ (grown_alloc (HGR.out.trans hg1) (.cells #[.int .u64 (t : Int), .slice none 0 0, .slice none 0 0] 58)))
    clear hg1 HP
    go_wp2
    go_ret3
    exact HE.out
   rw [if_neg c4] at hG
   have hdb2 : decide ((6 : Int) < (deep : Int)) = false := decide_eq_false (by omega)
   have hdp6 : deep ≤ 6 := by omega
   clear c4
   by_cases hev : t % 2 = 0
   ·rw [if_pos hev, if_pos hev, fin_join (by rfl), ← joinF_app] at hG
    have HNO := hHd (fun w => nests_no t (.slice none 0 0) (.slice none 0 0) w (by omega))
    have HG := hHd hG
    clear hG hev
    go_wp2_with fail
    refine (left_any g d s' 0 _ HW.out).mono ?_
    rintro r w1 ⟨rfl, rfl⟩
    go_wp2_with fail
    refine (left_any g d s' 0 _ HW.out).mono ?_
    rintro r w1 ⟨rfl, rfl⟩
    go_wp2_with fail
    refine HC.out.mono ?_
    rintro r w1 ⟨n1, rfl, hn1, hsub1, hw1, hg1⟩
    have hz1 := hg1.size
    have hsl := hsub1.lt
    have hblk1 := Blk.new w1 58 #[.int .u64 (t : Int), .slice none 0 0, .slice none 0 0]
    have hA1 : Below w1.heap.size w1 (w1.alloc (.cells #[.int .u64 (t : Int), .slice none 0 0, .slice none 0 0] 58)) := bAl
    go_wp2_with fail
    refine (HNO.out _).mono ?_
    rintro r w2 ⟨rfl, hb2⟩
    have hA2 := hA1.trans (hb2.mono (by simp))
    have hblk2 := hblk1.below hb2 hblk1.lt
    have hsub2 := hsub1.below hA2
    have hz2 : w1.heap.size < w2.heap.size := by have := hb2.size; simp only [World.size_alloc] at this; omega
    have HS2 := hHd hsub2
    have HA2 := hHd hA2
    have HBK2 := hHd hblk2
    have HW1 := hHd hw1
    have HG1 := hHd hg1
    clear hsub1 hw1 hg1 hblk1 hA1 hb2 hA2 hblk2 hsub2
    go_wp2_with fail
    refine (left_any (n1 + 1) n1 C 0 _ HS2.out).mono ?_
    rintro r w3 ⟨rfl, rfl⟩
    have hnx : nx C 0 (C.length : Int) = (C, [], 0) := by rw [nx_ok (by omega) (by omega)]; simp
    have HBY := hHd (bytes_any (n1 + 1) n1 C 0 (C.length : Int) w2 HS2.out (by omega))
    have HNX := hHd hnx
    clear hnx
    go_wp2_with fail
    refine HBY.out.mono ?_
    rintro r w3 ⟨v3, rfl, hr3, -, hg3, hz3⟩
    rw [HNX.out] at hr3
    have hz3' : w3.heap.size = w2.heap.size + 1 := hz3
    have hblk3 := HBK2.out.grown hg3 (by intro h; injection h with h; omega)
    obtain ⟨A3, c3, rfl⟩ : ∃ A c, v3 = .slice A C.length c := by obtain ⟨A, c, h, _⟩ := id hr3; exact ⟨A, c, h⟩
    have hblk4 := hblk3.set_ 1 (.slice A3 C.length c3)
    have hblk4' : Blk (w3.setCell ⟨w1.heap.size, 1, none⟩ (.slice A3 C.length c3)) w1.heap.size 58 #[.int .u64 (t : Int), .slice A3 C.length c3, .slice none 0 0] := hblk4
    have q1 : w3.cell? ⟨w1.heap.size, 1, none⟩ = some (.slice none 0 0) := by rw [hblk3.cell]; rfl
    have f1 : w3.frozen? ⟨w1.heap.size, 1, none⟩ = false := hblk3.frozen 1
    have p0 : (w3.setCell ⟨w1.heap.size, 1, none⟩ (.slice A3 C.length c3)).cell? ⟨w1.heap.size, 0, none⟩ = some (.int .u64 (t : Int)) := by rw [hblk4'.cell]; rfl
    have p1 : (w3.setCell ⟨w1.heap.size, 1, none⟩ (.slice A3 C.length c3)).cell? ⟨w1.heap.size, 1, none⟩ = some (.slice A3 C.length c3) := by rw [hblk4'.cell]; rfl
    have p2 : (w3.setCell ⟨w1.heap.size, 1, none⟩ (.slice A3 C.length c3)).cell? ⟨w1.heap.size, 2, none⟩ = some (.slice none 0 0) := by rw [hblk4'.cell]; rfl
    have hsz4 : (w3.setCell ⟨w1.heap.size, 1, none⟩ (.slice A3 C.length c3)).heap.size = w3.heap.size := by simp [World.setCell]
    have hK1 : ∀ k, k < w1.heap.size → k ≠ n1 + 1 → ((w3.setCell ⟨w1.heap.size, 1, none⟩ (.slice A3 C.length c3)).alloc (.cells #[.int .u64 (t : Int), .slice A3 C.length c3, .slice none 0 0] 58)).heap[k]? = w1.heap[k]? := fun k hk hne =>
     (Below.heap_alloc _ _ k (by rw [hsz4]; omega)).trans ((Below.heap_setCell w3 ⟨w1.heap.size, 1, none⟩ _ k (by show k ≠ w1.heap.size; omega)).trans ((hg3.block k (by omega) (by intro h; injection h with h; exact hne h)).trans (HA2.out.block k hk)))
    have hG4 : w.grownBy ((w3.setCell ⟨w1.heap.size, 1, none⟩ (.slice A3 C.length c3)).alloc (.cells #[.int .u64 (t : Int), .slice A3 C.length c3, .slice none 0 0] 58)) (some g) := grown_alloc (grown_set' (grown_new (grown_below (HGR.out.trans HG1.out) HA2.out) hg3 (by have := HGR.out.size; omega)) (by have := HGR.out.size; show _ ≤ w1.heap.size; omega) _) _
    have hz4 : ((w3.setCell ⟨w1.heap.size, 1, none⟩ (.slice A3 C.length c3)).alloc (.cells #[.int .u64 (t : Int), .slice A3 C.length c3, .slice none 0 0] 58)).heap.size = w3.heap.size + 1 := by rw [World.size_alloc, hsz4]
    have hown4 : OwnF DataI 58 ((w3.setCell ⟨w1.heap.size, 1, none⟩ (.slice A3 C.length c3)).alloc (.cells #[.int .u64 (t : Int), .slice A3 C.length c3, .slice none 0 0] 58)) w.heap.size (.slice Au p.len cu) p := HOWN.out.kept stays_I (by rw [hz4]; omega) (fun k hk1 hk2 => (hK1 k (by omega) (by omega)).trans (HG1.out.block k hk2 (by have := HLT.out; intro h; injection h with h; omega)))
    have hlt4 := fun k hk => (HOWN.out.lt k hk).2
    have hdat : DataI ((w3.setCell ⟨w1.heap.size, 1, none⟩ (.slice A3 C.length c3)).alloc (.cells #[.int .u64 (t : Int), .slice A3 C.length c3, .slice none 0 0] 58)) (ItsI w.heap.size ((w3.setCell ⟨w1.heap.size, 1, none⟩ (.slice A3 C.length c3)).alloc (.cells #[.int .u64 (t : Int), .slice A3 C.length c3, .slice none 0 0] 58)) (.slice Au p.len cu)) (.slice A3 C.length c3) C := ⟨w2.heap.size, (hr3.setCell (by show w2.heap.size ≠ w1.heap.size; omega) _).alloc _, fun _ => ⟨by have := HGR.out.size; omega, by rw [hz4]; omega, fun h => by have := hlt4 _ h.symm; omega⟩⟩
    have hbl5 := Blk.new (w3.setCell ⟨w1.heap.size, 1, none⟩ (.slice A3 C.length c3)) 58 #[.int .u64 (t : Int), .slice A3 C.length c3, .slice none 0 0]
    rw [hsz4] at hbl5
    have HOW4 := hHd hown4
    have HDAT := hHd hdat
    have HBL5 := hHd hbl5
    have HG4 := hHd hG4
    have HK1 := hHd hK1
    have hz5 : w.heap.size ≤ ((w3.setCell ⟨w1.heap.size, 1, none⟩ (.slice A3 C.length c3)).alloc (.cells #[.int .u64 (t : Int), .slice A3 C.length c3, .slice none 0 0] 58)).heap.size := hG4.size
    have HZ5 := hHd hz5
    clear hblk4 hblk4' hblk3 hK1 hG4 hown4 hlt4 hdat hbl5 hr3 hg3 hz3 hz3' hz4 hz5 hsz4
    go_wp2_with (at_builtin; refine wpList_append_it stays_I one_I Tryz.underlying56 Tryz.infoT zeroTI rfl (.tmp 63) (.tmp 65) rfl rfl w.heap.size _ p rfl HOW4.out w3.heap.size rfl t C .nil (.slice A3 C.length c3) (.slice none 0 0) HBL5.out HT64.out HDAT.out (FV.nil _ _) ?h1 ?h2 ?h3 ?_)
    case h1 => omega
    case h2 => omega
    case h3 => exact HZ5.out
    intro v' w' hap
    have hwin' : Win w' g d s3 0 := HW1.out.kept ((hap.2.1.block g (by have := HZ5.out; have := HLT.out; omega) (fun e => by have := (HOW4.out.lt g e.symm).1; have := HLT.out; omega)).trans (HK1.out g (by have := HLT.out; have := HGR.out.size; omega) (by have := HLT.out; have := HGR.out.size; omega)))
     (fun _ => (hap.2.1.block d (by have := HZ5.out; omega) (fun e => by have := (HOW4.out.lt d e.symm).1; omega)).trans (HK1.out d (by have := HGR.out.size; omega) (by have := HGR.out.size; omega)))
    have hg' : w.grownBy w' (some g) := HG4.out.andThen hap.2.1 (fun j e => .inl (HOW4.out.lt j e).1)
    have hown' := hap.1
    obtain ⟨g9, c9, rfl⟩ := hap.2.2.2
    have HWIN' := hHd hwin'
    have HG' := hHd hg'
    have HO' := hHd hown'
    have HNN : Hid (at' + (a + b + L) + s3.length = N) := hHd (by have := HN.out; omega)
    clear hap hwin' hg' hown'
    go_wp2
    go_roundw
    case rel => exact ⟨m, s3, at' + (a + b + L), p.app (.cons t C .nil .nil), by omega, by omega, HNN.out, by rw [Fo.len_app]; simp only [Fo.len]; omega, HG, HWIN', HO'.out, HG'⟩
    case measure => simp only [Fo.len_app, Fo.len]; omega
   ·rw [if_neg hev, if_neg hev] at hG
    obtain ⟨K, hK⟩ : ∃ K, K = gt m C (deep + 1) (at' + a + b) := ⟨_, rfl⟩
    rw [← hK] at hG
    have HK := hHd hK
    have HNO := hHd (fun w => nests_yes t (.slice none 0 0) (.slice none 0 0) w (by omega))
    have HGG := hHd hG
    clear hG hev hK
    go_wp2_with fail
    refine (left_any g d s' 0 _ HW.out).mono ?_
    rintro r w1 ⟨rfl, rfl⟩
    go_wp2_with fail
    refine (left_any g d s' 0 _ HW.out).mono ?_
    rintro r w1 ⟨rfl, rfl⟩
    go_wp2_with fail
    refine HC.out.mono ?_
    rintro r w1 ⟨n1, rfl, hn1, hsub1, hw1, hg1⟩
    have hz1 := hg1.size
    have hsl := hsub1.lt
    have hblk1 := Blk.new w1 58 #[.int .u64 (t : Int), .slice none 0 0, .slice none 0 0]
    have hA1 : Below w1.heap.size w1 (w1.alloc (.cells #[.int .u64 (t : Int), .slice none 0 0, .slice none 0 0] 58)) := bAl
    go_wp2_with fail
    refine (HNO.out _).mono ?_
    rintro r w2 ⟨rfl, hb2⟩
    have hA2 := (hA1.trans (hb2.mono (by simp))).drew
    have hblk2 : Blk w2.drew w1.heap.size 58 #[.int .u64 (t : Int), .slice none 0 0, .slice none 0 0] := (hblk1.below hb2 hblk1.lt).below (Below.refl w2.heap.size w2).drew (hblk1.below hb2 hblk1.lt).lt
    have hsub2 := hsub1.below hA2
    have hz2 : w1.heap.size < w2.drew.heap.size := hblk2.lt
    have hw2 := hw1.below hA2
    have hse2 : SelfD w2.drew eb := Blk.below (Blk.grown (Blk.grown HSELF.out HGR.out (by intro h; injection h with h; exact hebg h)) hg1 (by intro h; injection h with h; exact hebg h)) hA2 (by have := HEB.out; have := HGR.out.size; omega)
    have hsc : w2.drew.cell? ⟨eb, 0, none⟩ = some (.func (.func 55) #[] #[.pointer (some ⟨eb, 0, none⟩)]) := by rw [hse2.cell]; rfl
    have hq0 : w2.drew.cell? ⟨w1.heap.size, 2, none⟩ = some (.slice none 0 0) := by rw [hblk2.cell]; rfl
    have hq1 : w2.drew.frozen? ⟨w1.heap.size, 2, none⟩ = false := hblk2.frozen 2
    have hEnd : (N : Int) - (s3.length : Int) = ((at' + a + b + C.length : Nat) : Int) := by have := HN.out; omega
    obtain ⟨M, hM⟩ : ∃ M, M = at' + a + b + C.length := ⟨_, rfl⟩
    rw [← hM] at hEnd
    have HIH : Hid (Calls Tryz.prog 55 #[.pointer (some ⟨n1 + 1, 0, none⟩), .int .i64 (M : Int), .int .i64 ((deep : Int) + 1), .pointer (some ⟨eb, 0, none⟩)] w2.drew (DecP K (n1 + 1) w2.drew)) := hHd (by
     rw [HK.out]
     exact HI.out m (by omega) C (deep + 1) (at' + a + b) w2.drew (n1 + 1) n1 eb _ _ hsub2 (by omega) (by omega) (by omega) (by have := HN.out; omega) (by omega) (by rw [hM]) (by omega) hse2 (by have := HEB.out; have := HGR.out.size; omega))
    have HA2 := hHd hA2
    have HBK2 := hHd hblk2
    have HW1 := hHd hw1
    have HW2 := hHd hw2
    have HG1 := hHd hg1
    have HM := hHd hM
    have hwl := HW2.out
    clear hsub1 hw1 hg1 hblk1 hA1 hb2 hA2 hblk2 hsub2 hw2 hse2 hM hwl
    have hwr1 : IntKind.i64.wrap ((N : Int) - (s3.length : Int)) = (M : Int) := by rw [hEnd]; exact IntWalk.i64_in _ (by omega)
    have HNE : Hid (eb ≠ n1 + 1) := hHd (by have := HEB.out; have := HGR.out.size; omega)
    have hwr2 : IntKind.i64.wrap ((deep : Int) + 1) = (deep : Int) + 1 := IntWalk.i64_in _ (by omega)
    clear hEnd
    go_wp2_with fail
    refine wp_region_noPanic ?_
    refine wp_region_held_drew (S := fun _ => True) (by kernel_rfl) trivial (fun hS => ?_)
    refine held_more (S' := fun w' => w'.cell? ⟨eb, 0, none⟩ = some (.func (.func 55) #[] #[.pointer (some ⟨eb, 0, none⟩)])) (fun _ _ => trivial) _ _ _ _ ?_
    replace hS := hsc
    refine tkH 0 hS ?_ (hy := fun w hSw => by have hc := hSw; (go_simp <;> with_reducible rfl))
    refine tkH 1 hS ?_
    refine tkH 2 hS ?_
    refine tkH 3 hS ?_
    refine tkH 6 hS ?_
    refine tkH 7 hS ?_
    refine rdy1 4 fun K hK => ?_
    go_simp
    refine (left_any g d s3 0 _ HW2.out).mono ?_
    rintro r w8 ⟨rfl, rfl⟩
    go_wp2_with fail
    refine hK.out _ _ ?s_0 (fun hS => ?_)
    case s_0 => (exact hS)
    clear hK K
    (try simp only [Act.put, layS])
    refine tkH 5 hS ?_
    refine rdy1 8 fun K hK => ?_
    go_simp
    refine HIH.out.mono ?_
    rintro r w3 ⟨v3, rfl, hv3, hg3⟩
    obtain ⟨A3, c3, rfl⟩ := hv3.shape
    have hblk3 := HBK2.out.grown hg3 (by intro h; injection h with h; omega)
    have q2 : w3.cell? ⟨w1.heap.size, 2, none⟩ = some (.slice none 0 0) := by rw [hblk3.cell]; rfl
    have f2 : w3.frozen? ⟨w1.heap.size, 2, none⟩ = false := hblk3.frozen 2
    have HBK3 := hHd hblk3
    have HV3 := hHd hv3
    have HG3 := hHd hg3
    clear hblk3 hv3 hg3
    go_wp2_with fail
    refine hK.out _ _ ?s_1 (fun hS => ?_)
    case s_1 => (exact HG3.out.cell hS (by intro h; injection h with h; exact HNE.out h))
    clear hK K
    (try simp only [Act.put, layS])
    refine tkH 9 hS ?_
    refine tkH 10 hS ?_
    refine tkH 11 hS ?_
    refine tkH 12 hS ?_
    refine tkH 13 hS ?_
    refine rdy1 14 fun K hK => ?_
    go_simp
    refine hK.out _ _ ?s_2 (fun hS => ?_)
    case s_2 => (exact (World.cell?_setCell_other _ _ _ _ (by intro h; injection h with h1 h2; omega)).trans hS)
    clear hK K
    (try simp only [Act.put, layS])
    refine tkH 15 hS ?_
    refine tkH 16 hS ?_
    refine wpAnyH_done (by kernel_rfl) ?_ _
    refine NoPanic.normal ?_
    clear hS hwr1 hwr2 hsc hq0 hq1 HW2
    have hGS : w.grownBy (w3.setCell ⟨w1.heap.size, 2, none⟩ (.slice A3 K.1.len c3)) (some g) := grown_set' (grown_new (grown_below (HGR.out.trans HG1.out) HA2.out) HG3.out (by have := HGR.out.size; omega)) (by have := HGR.out.size; show _ ≤ w1.heap.size; omega) _
    have HGS := hHd hGS
    have hz3 : w1.heap.size < w3.heap.size := by have := HG3.out.size; omega
    clear hGS
    by_cases hk0 : K.2.1 = 0
    ·have hk0b : (K.2.1 == 0) = true := by rw [hk0]; rfl
     have hk0c : (K.2.1 != 0) = false := by rw [hk0]; rfl
     have hG := HGG.out
     rw [fin_join hk0, ← joinF_app] at hG
     have HG := hHd hG
     have hblk4' : Blk (w3.setCell ⟨w1.heap.size, 2, none⟩ (.slice A3 K.1.len c3)) w1.heap.size 58 #[.int .u64 (t : Int), .slice none 0 0, .slice A3 K.1.len c3] := HBK3.out.set_ 2 _
     have p0 : (w3.setCell ⟨w1.heap.size, 2, none⟩ (.slice A3 K.1.len c3)).cell? ⟨w1.heap.size, 0, none⟩ = some (.int .u64 (t : Int)) := by rw [hblk4'.cell]; rfl
     have p1 : (w3.setCell ⟨w1.heap.size, 2, none⟩ (.slice A3 K.1.len c3)).cell? ⟨w1.heap.size, 1, none⟩ = some (.slice none 0 0) := by rw [hblk4'.cell]; rfl
     have p2 : (w3.setCell ⟨w1.heap.size, 2, none⟩ (.slice A3 K.1.len c3)).cell? ⟨w1.heap.size, 2, none⟩ = some (.slice A3 K.1.len c3) := by rw [hblk4'.cell]; rfl
     have hsz4 : (w3.setCell ⟨w1.heap.size, 2, none⟩ (.slice A3 K.1.len c3)).heap.size = w3.heap.size := by simp [World.setCell]
     have hK1 : ∀ k, k < w1.heap.size → k ≠ n1 + 1 → ((w3.setCell ⟨w1.heap.size, 2, none⟩ (.slice A3 K.1.len c3)).alloc (.cells #[.int .u64 (t : Int), .slice none 0 0, .slice A3 K.1.len c3] 58)).heap[k]? = w1.heap[k]? := fun k hk hne =>
      (Below.heap_alloc _ _ k (by rw [hsz4]; omega)).trans ((Below.heap_setCell w3 ⟨w1.heap.size, 2, none⟩ _ k (by show k ≠ w1.heap.size; omega)).trans ((HG3.out.block k (by omega) (by intro h; injection h with h; exact hne h)).trans (HA2.out.block k hk)))
     have hG4 : w.grownBy ((w3.setCell ⟨w1.heap.size, 2, none⟩ (.slice A3 K.1.len c3)).alloc (.cells #[.int .u64 (t : Int), .slice none 0 0, .slice A3 K.1.len c3] 58)) (some g) := grown_alloc HGS.out _
     have hz4 : ((w3.setCell ⟨w1.heap.size, 2, none⟩ (.slice A3 K.1.len c3)).alloc (.cells #[.int .u64 (t : Int), .slice none 0 0, .slice A3 K.1.len c3] 58)).heap.size = w3.heap.size + 1 := by rw [World.size_alloc, hsz4]
     have hown4 : OwnF DataI 58 ((w3.setCell ⟨w1.heap.size, 2, none⟩ (.slice A3 K.1.len c3)).alloc (.cells #[.int .u64 (t : Int), .slice none 0 0, .slice A3 K.1.len c3] 58)) w.heap.size (.slice Au p.len cu) p := HOWN.out.kept stays_I (by rw [hz4]; omega) (fun k hk1 hk2 => (hK1 k (by omega) (by omega)).trans (HG1.out.block k hk2 (by have := HLT.out; intro h; injection h with h; omega)))
     have hlt4 := fun k hk => (HOWN.out.lt k hk).2
     have hkv4 : FV DataI ((w3.setCell ⟨w1.heap.size, 2, none⟩ (.slice A3 K.1.len c3)).alloc (.cells #[.int .u64 (t : Int), .slice none 0 0, .slice A3 K.1.len c3] 58)) (ItsI w.heap.size ((w3.setCell ⟨w1.heap.size, 2, none⟩ (.slice A3 K.1.len c3)).alloc (.cells #[.int .u64 (t : Int), .slice none 0 0, .slice A3 K.1.len c3] 58)) (.slice Au p.len cu)) (.slice A3 K.1.len c3) K.1 := HV3.out.kept stays_I (fun k hk => (Below.heap_alloc _ _ k (by rw [hsz4]; exact hk.2)).trans (Below.heap_setCell w3 ⟨w1.heap.size, 2, none⟩ _ k (by have := hk.1; show k ≠ w1.heap.size; omega)))
      (fun k hk => ⟨by have := hk.1; have := HGR.out.size; omega, by have := hk.2; rw [hz4]; omega, fun h => by have := hlt4 _ h.symm; have := hk.1; omega⟩)
     have hbl5 := Blk.new (w3.setCell ⟨w1.heap.size, 2, none⟩ (.slice A3 K.1.len c3)) 58 #[.int .u64 (t : Int), .slice none 0 0, .slice A3 K.1.len c3]
     rw [hsz4] at hbl5
     have HOW4 := hHd hown4
     have HKV := hHd hkv4
     have HBL5 := hHd hbl5
     have HG4 := hHd hG4
     have HK1 := hHd hK1
     have hz5 : w.heap.size ≤ ((w3.setCell ⟨w1.heap.size, 2, none⟩ (.slice A3 K.1.len c3)).alloc (.cells #[.int .u64 (t : Int), .slice none 0 0, .slice A3 K.1.len c3] 58)).heap.size := hG4.size
     have HZ5 := hHd hz5
     clear hG hk0 hblk4' hK1 hG4 hown4 hlt4 hkv4 hbl5 hz4 hz5 hsz4
     go_wp2_with (at_builtin; refine wpList_append_it stays_I one_I Tryz.underlying56 Tryz.infoT zeroTI rfl (.tmp 63) (.tmp 65) rfl rfl w.heap.size _ p rfl HOW4.out w3.heap.size rfl t [] K.1 (.slice none 0 0) (.slice A3 K.1.len c3) HBL5.out HT64.out ⟨0, Rd.nil _ _, fun h => absurd h (by simp)⟩ HKV.out ?h1 ?h2 ?h3 ?_)
     case h1 => omega
     case h2 => omega
     case h3 => exact HZ5.out
     intro v' w' hap
     have hwin' : Win w' g d s3 0 := HW1.out.kept ((hap.2.1.block g (by have := HZ5.out; have := HLT.out; omega) (fun e => by have := (HOW4.out.lt g e.symm).1; have := HLT.out; omega)).trans (HK1.out g (by have := HLT.out; have := HGR.out.size; omega) (by have := HLT.out; have := HGR.out.size; omega)))
      (fun _ => (hap.2.1.block d (by have := HZ5.out; omega) (fun e => by have := (HOW4.out.lt d e.symm).1; omega)).trans (HK1.out d (by have := HGR.out.size; omega) (by have := HGR.out.size; omega)))
     have hg' : w.grownBy w' (some g) := HG4.out.andThen hap.2.1 (fun j e => .inl (HOW4.out.lt j e).1)
     have hown' := hap.1
     obtain ⟨g9, c9, rfl⟩ := hap.2.2.2
     have HWIN' := hHd hwin'
     have HG' := hHd hg'
     have HO' := hHd hown'
     have HNN : Hid (at' + (a + b + L) + s3.length = N) := hHd (by have := HN.out; omega)
     clear hap hwin' hg' hown'
     go_wp2
     go_roundw
     case rel => exact ⟨m, s3, at' + (a + b + L), p.app (.cons t [] K.1 .nil), by omega, by omega, HNN.out, by rw [Fo.len_app]; simp only [Fo.len]; omega, HG, HWIN', HO'.out, HG'⟩
     case measure => simp only [Fo.len_app, Fo.len]; omega
    ·have hk0b : (K.2.1 == 0) = false := beq_eq_false_iff_ne.2 hk0
     have hk0c : (K.2.1 != 0) = true := by unfold bne; rw [hk0b]; rfl
     have HP : Hid (DecP G g w (.returned (.tuple #[.slice none 0 0, .int .i64 K.2.1, .int .i64 (K.2.2 : Int)])) (w3.setCell ⟨w1.heap.size, 2, none⟩ (.slice A3 K.1.len c3))) := hHd (DecP.err (o := K.2.2) (by rw [HGG.out]; unfold fin joinF; rw [if_pos hk0]; rw [if_neg hk0]) HGS.out)
     clear hk0
     go_wp2
     go_ret3
     exact HP.out
theorem getC : GetC := by
 intro l w d v hr hl
 have hmf : ∀ (fn : Fn) (first cap : Array Value) (w : World), (Instr.makeFunc fn first cap).run Tryz.prog w = .ok (.func fn first cap) w := fun _ _ _ _ => rfl
 by_cases h : 8192 < l.length
 ·obtain ⟨A, c, rfl, -⟩ := id hr
  have hd : decide ((8192 : Int) < (l.length : Int)) = true := decide_eq_true (by omega)
  have HP : Hid (GetP (gotOf l) w (.returned (.tuple #[.slice none 0 0, .int .i64 14, .int .i64 0])) w) := hHd (by
   unfold gotOf
   rw [if_pos h]
   exact ⟨_, rfl, FV.nil _ _, Below.refl _ _⟩)
  clear h
  go_enter Tryz.func28, Tryz.ntmps28
  go_wp2
  go_ret3
  exact HP.out
 ·have hd : decide ((8192 : Int) < (l.length : Int)) = false := decide_eq_false (by omega)
  obtain ⟨G, hG⟩ : ∃ G, G = gotOf l := ⟨_, rfl⟩
  have HG : Hid (G = gt l.length l 1 0) := hHd (by rw [hG]; unfold gotOf; rw [if_neg h])
  rw [← hG]
  have hBx : Below w.heap.size w (w.alloc (.cells #[.func (.func 55) #[] #[.pointer (some ⟨w.heap.size, 0, none⟩)]] 94)).drew := bAl.drew
  have hself : SelfD (w.alloc (.cells #[.func (.func 55) #[] #[.pointer (some ⟨w.heap.size, 0, none⟩)]] 94)).drew w.heap.size := Blk.below (Blk.new w _ _) (Below.refl (w.alloc (.cells #[.func (.func 55) #[] #[.pointer (some ⟨w.heap.size, 0, none⟩)]] 94)).heap.size _).drew (by simp)
  have hr1 := hr.below' hBx
  obtain ⟨W, hW⟩ : ∃ W, W = (w.alloc (.cells #[.func (.func 55) #[] #[.pointer (some ⟨w.heap.size, 0, none⟩)]] 94)).drew := ⟨_, rfl⟩
  rw [← hW] at hBx hself hr1
  have HSELF := hHd hself
  have HBX := hHd hBx
  have HR1 := hHd hr1
  have hsc : W.cell? ⟨w.heap.size, 0, none⟩ = some (.func (.func 55) #[] #[.pointer (some ⟨w.heap.size, 0, none⟩)]) := by rw [Blk.cell hself]; rfl
  obtain ⟨A, c, rfl, -⟩ := id hr
  have HW := hHd hW
  clear hG h hBx hself hr1 hr hW
  go_enter Tryz.func28, Tryz.ntmps28
  go_wp2_with fail
  refine wp_region_noPanic ?_
  refine wp_region_held_drew (S := fun _ => True) (by kernel_rfl) trivial (fun hS => ?_)
  rw [← HW.out]
  refine held_more (S' := fun w' => w'.cell? ⟨w.heap.size, 0, none⟩ = some (.func (.func 55) #[] #[.pointer (some ⟨w.heap.size, 0, none⟩)])) (fun _ _ => trivial) _ _ _ _ ?_
  replace hS := hsc
  refine tkH 0 hS ?_ (hy := fun w hSw => by have hc := hSw; (go_simp <;> with_reducible rfl))
  refine tkH 1 hS ?_
  refine tkH 3 hS ?_
  refine tkH 4 hS ?_
  refine rdy1 2 fun K hK => ?_
  go_simp
  refine (open_any d _ l _ HR1.out).mono ?_
  rintro r w2 ⟨rfl, hw2, hb2, hz2⟩
  have hz2' : w2.heap.size = W.heap.size + 2 := hz2
  have hs2 : SelfD w2 w.heap.size := Blk.below HSELF.out hb2 (Blk.lt HSELF.out)
  have HD := hHd (dec_any l.length l 1 0 w2 (W.heap.size + 1) W.heap.size w.heap.size (l.length : Int) 1 hw2 (by omega) (by omega) (Nat.le_refl _) (by omega) (by omega) (by simp) rfl hs2 (by have := Blk.lt HSELF.out; omega))
  rw [← HG.out] at HD
  have HB2 := hHd hb2
  clear hw2 hb2 hz2 hz2' hs2
  go_wp2_with fail
  refine hK.out _ _ ?s_0 (fun hS => ?_)
  case s_0 => (exact (HB2.out.cell (p := ⟨w.heap.size, 0, none⟩) (Blk.lt HSELF.out)).trans hS)
  clear hK K
  (try simp only [Act.put, layS])
  refine rdy1 5 fun K hK => ?_
  go_simp
  refine HD.out.mono ?_
  rintro r w3 ⟨v3, rfl, hv3, hg3⟩
  obtain ⟨A3, c3, rfl⟩ := hv3.shape
  have HV3 := hHd hv3
  have HG3 := hHd hg3
  clear hv3 hg3
  go_wp2_with fail
  refine hK.out _ _ ?s_1 (fun hS => ?_)
  case s_1 => (exact HG3.out.cell hS (by intro h; injection h with h; have := Blk.lt HSELF.out; have h2 : w.heap.size = W.heap.size + 1 := h; omega))
  clear hK K
  (try simp only [Act.put, layS])
  refine tkH 6 hS ?_
  refine tkH 7 hS ?_
  refine tkH 8 hS ?_
  refine tkH 9 hS ?_
  refine tkH 10 hS ?_
  refine tkH 11 hS ?_
  refine wpAnyH_done (by kernel_rfl) ?_ _
  refine NoPanic.normal ?_
  have HP : Hid (GetP G w (.returned (.tuple #[.slice A3 G.1.len c3, .int .i64 G.2.1, .int .i64 (G.2.2 : Int)])) w3) := hHd (by
   have hb := HBX.out.trans (HB2.out.mono HBX.out.size)
   exact ⟨_, rfl, HV3.out.kept stays_I (fun _ _ => rfl) (fun g hg => ⟨Nat.le_trans hb.size hg.1, hg.2⟩), below_of_grownI hb HG3.out (by have := HBX.out.size; omega)⟩)
  clear hS
  go_wp2
  go_ret3
  exact HP.out
end Go.Proofs.YtleidkpdpabkpaaGreatDoor
