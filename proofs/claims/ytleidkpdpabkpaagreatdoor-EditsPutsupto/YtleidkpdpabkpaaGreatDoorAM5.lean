/- TlvGot ValNum SpcMem ForestB SclRef SclRefC VlrB -/
import Derived.Test.YtleidkpdpabkpaaGreatDoorAM4
set_option linter.unusedSimpArgs false
set_option linter.unusedVariables false
set_option maxRecDepth 100000
set_option maxHeartbeats 8000000
namespace Go.Proofs.YtleidkpdpabkpaaGreatDoor
open Go.RowKit
def joinF (p : Fo) (x : Fo × Int × Nat) : Fo × Int × Nat := if x.2.1 = 0 then (p.app x.1, 0, 0) else (.nil, x.2.1, x.2.2)
theorem joinF_app (p q : Fo) (x : Fo × Int × Nat) : joinF (p.app q) x = joinF p (joinF q x) := by
 unfold joinF
 by_cases h : x.2.1 = 0
 ·rw [if_pos h, if_pos h]; simp [Fo.app_assoc]
 ·rw [if_neg h, if_neg h, if_neg h]
theorem fin_join {t : Nat} {d : List UInt8} {k r : Fo × Int × Nat} (h : k.2.1 = 0) : fin t d k r = joinF (.cons t d k.1 .nil) r := by
 unfold fin joinF
 rw [if_neg (by rw [h]; decide)]
 by_cases h2 : r.2.1 = 0
 ·rw [if_neg (by rw [h2]; decide), if_pos h2]; rfl
 ·rw [if_pos h2, if_neg h2]
theorem gt_zero (n : Nat) (s : List UInt8) (deep at_ : Nat) (h : (gt n s deep at_).2.1 = 0) : (gt n s deep at_).2.2 = 0 := by
 cases n with
 | zero => rfl
 | succ n =>
  by_cases hs : s = []
  ·subst hs; rw [gt_nil]
  ·obtain ⟨t, a, e, h1⟩ : ∃ t a e, getV s = (t, a, e) := ⟨_, _, _, rfl⟩
   obtain ⟨long, b, f, h2⟩ : ∃ t b e, getV (s.drop a) = (t, b, e) := ⟨_, _, _, rfl⟩
   rw [gt_step hs h1 h2] at h ⊢
   by_cases c1 : e ≠ 0
   ·rw [if_pos c1] at h; exact absurd h c1
   rw [if_neg c1] at h ⊢
   by_cases c2 : f ≠ 0
   ·rw [if_pos c2] at h; exact absurd h c2
   rw [if_neg c2] at h ⊢
   by_cases c3 : s.length - a - b < long
   ·rw [if_pos c3] at h; exact absurd (show (10 : Int) = 0 from h) (by decide)
   rw [if_neg c3] at h ⊢
   by_cases c4 : 6 < deep
   ·rw [if_pos c4] at h; exact absurd (show (13 : Int) = 0 from h) (by decide)
   rw [if_neg c4] at h ⊢
   rw [(fin_ok h).2.2]
theorem joinF_nil (n : Nat) (s : List UInt8) (deep at_ : Nat) : joinF .nil (gt n s deep at_) = gt n s deep at_ := by
 unfold joinF
 by_cases h : (gt n s deep at_).2.1 = 0
 ·rw [if_pos h]
  exact Prod.ext rfl (Prod.ext h.symm (gt_zero n s deep at_ h).symm)
 ·rw [if_neg h]
  exact Prod.ext (gt_err n s deep at_ h).symm rfl
def Got3 (x : Fo × Int × Nat) (w : World) (r : Ending) (w' : World) : Prop :=
 ∃ v, r = .returned (.tuple #[v, .int .i64 x.2.1, .int .i64 (x.2.2 : Int)]) ∧ FV DataR w' (MineI w.heap.size w') v x.1 ∧ Below w.heap.size w w'
theorem Got3.err {x : Fo × Int × Nat} {e : Int} {o : Nat} {w w' : World} (hx : x = (.nil, e, o)) (hb : Below w.heap.size w w') : Got3 x w (.returned (.tuple #[.slice none 0 0, .int .i64 e, .int .i64 (o : Int)])) w' := by
 subst hx
 exact ⟨_, rfl, FV.nil _ _, hb⟩
theorem rget_at (s : List UInt8) (t a : Nat) (e : Int) (w : World) (hs : s.length ≤ 100000) (h : getV s = (t, a, e)) :
  Calls Tryz.prog 92 #[.string (txt s)] w fun r w' => r = .returned (.tuple #[.int .u64 (t : Int), .int .i64 (a : Int), .int .i64 e]) ∧ w = w' :=
 (nrget_any s w hs).mono fun r w' hp => by
  unfold RGetPost getOut at hp
  rw [h] at hp
  exact hp
theorem rget3_any (n : Nat) : ∀ (s : List UInt8) (deep at_ : Nat) (w : World) (dI aI : Int), s.length ≤ n → at_ + s.length ≤ 100000 → deep ≤ 7 → dI = (deep : Int) → aI = (at_ : Int) →
  Calls Tryz.prog 62 #[.string (txt s), .int .i64 dI, .int .i64 aI] w (Got3 (gt n s deep at_) w) := by
 induction n using Nat.strongRecOn with
 | ind n ih =>
 intro s deep at_ w dI aI hn hs hdeep hdI haI
 subst hdI haI
 have HI : Hid (∀ m, m < n → ∀ (s : List UInt8) (deep at_ : Nat) (w : World) (dI aI : Int), s.length ≤ m → at_ + s.length ≤ 100000 → deep ≤ 7 → dI = (deep : Int) → aI = (at_ : Int) →
  Calls Tryz.prog 62 #[.string (txt s), .int .i64 dI, .int .i64 aI] w (Got3 (gt m s deep at_) w)) := hHd ih
 obtain ⟨G, hG⟩ : ∃ G, G = gt n s deep at_ := ⟨_, rfl⟩
 rw [← hG]
 have HG0 : Hid (G = joinF .nil (gt n s deep at_)) := hHd (by rw [joinF_nil]; exact hG)
 clear ih hG
 go_enter Tryz.func62, Tryz.ntmps62
 go_wp2
 go_loopw [0, 2, 9] (fun x i u wr => ∃ (m : Nat) (s' : List UInt8) (at' : Nat) (p : Fo), m ≤ n ∧ s'.length ≤ m ∧ at' + s'.length ≤ 100000 ∧ p.len + s'.length ≤ 100000 ∧ x = .string (txt s') ∧ i = .int .i64 (at' : Int) ∧ Hid (G = joinF p (gt m s' deep at')) ∧ OwnF DataR 79 wr w.heap.size u p ∧ Below w.heap.size w wr) (fun x _ _ _ => match x with | .string b => b.size | _ => 0)
 case atStart => exact ⟨n, s, at_, .nil, Nat.le_refl _, hn, hs, by simp only [Fo.len]; omega, rfl, rfl, HG0, OwnF.nil _ _, Below.refl _ _⟩
 case round =>
  obtain ⟨m, s', at', p, hmn, hsm, hs5, hp5, rfl, rfl, HG, hown, hB⟩ := hrel
  have hsz := txt_size s'
  by_cases hs0 : s' = []
  ·subst hs0
   have hnb := txt_none
   have hGe : G = (p, 0, 0) := by rw [HG.out, gt_nil]; unfold joinF; rw [if_pos rfl, Fo.app_nil]
   have hfv := hown.fv stays_R
   obtain ⟨A3, c3, rfl⟩ := hfv.shape
   have HP : Hid (Got3 G w (.returned (.tuple #[.slice A3 p.len c3, .int .i64 0, .int .i64 0])) wr) := hHd (by rw [hGe]; exact ⟨_, rfl, hfv, hB⟩)
   clear hGe hfv hown hB
   go_wp2
   go_ret3
   exact HP.out
  ·have hnb := txt_some (l := s') (List.length_pos_iff.2 hs0)
   obtain ⟨m, rfl⟩ : ∃ m', m = m' + 1 := ⟨m - 1, by have := List.length_pos_iff.2 hs0; omega⟩
   obtain ⟨t, a, e, h1⟩ : ∃ t a e, getV s' = (t, a, e) := ⟨_, _, _, rfl⟩
   obtain ⟨L, b, e2, h2⟩ : ∃ t b e, getV (s'.drop a) = (t, b, e) := ⟨_, _, _, rfl⟩
   have hG := HG.out
   rw [gt_step hs0 h1 h2] at hG
   clear HG
   have HC1 := hHd (rget_at s' t a e wr (by omega) h1)
   by_cases c1 : e ≠ 0
   ·rw [if_pos c1] at hG
    have hb1 : (e == 0) = false := by simpa using c1
    have hb2 : (e != 0) = true := by simpa using c1
    have HP : Hid (Got3 G w (.returned (.tuple #[.slice none 0 0, .int .i64 e, .int .i64 (at' : Int)])) wr) := hHd (Got3.err (by rw [hG]; unfold joinF; rw [if_neg c1]) hB)
    clear hG c1 h1 h2 hs0 hown hB
    go_wp2_with fail
    refine HC1.out.mono ?_
    rintro r w1 ⟨rfl, rfl⟩
    go_wp2
    go_ret3
    exact HP.out
   rw [if_neg c1] at hG
   obtain rfl : e = 0 := Decidable.not_not.1 c1
   have o1 := getV_own s' (by rw [h1])
   rw [h1] at o1
   obtain ⟨a1, a2, -, t64, -⟩ := o1
   dsimp only at a1 a2 t64
   have hx1 : (txt s').extract a s'.length = txt (s'.drop a) := by rw [txt_extract, List.take_of_length_le (Nat.le_refl _)]
   have hd1 : (s'.drop a).length = s'.length - a := List.length_drop
   obtain ⟨s1, hs1⟩ : ∃ s1, s1 = s'.drop a := ⟨_, rfl⟩
   rw [← hs1] at hx1 hd1 h2
   have HC2 := hHd (rget_at s1 L b e2 wr (by omega) h2)
   by_cases c2 : e2 ≠ 0
   ·rw [if_pos c2] at hG
    have hb1 : (e2 == 0) = false := by simpa using c2
    have hb2 : (e2 != 0) = true := by simpa using c2
    have HP : Hid (Got3 G w (.returned (.tuple #[.slice none 0 0, .int .i64 e2, .int .i64 ((at' : Int) + (a : Int))])) wr) := hHd (Got3.err (o := at' + a) (by rw [hG]; unfold joinF; rw [if_neg c2]) hB)
    clear hG c1 c2 h1 h2 hs0 hown hB hs1 hd1
    go_wp2_with fail
    refine HC1.out.mono ?_
    rintro r w1 ⟨rfl, rfl⟩
    go_wp2_with fail
    refine HC2.out.mono ?_
    rintro r w1 ⟨rfl, rfl⟩
    go_wp2
    go_ret3
    exact HP.out
   rw [if_neg c2] at hG
   obtain rfl : e2 = 0 := Decidable.not_not.1 c2
   have o2 := getV_own s1 (by rw [h2])
   rw [h2] at o2
   obtain ⟨b1, b2, -, l64, -⟩ := o2
   dsimp only at b1 b2 l64
   obtain ⟨D, hD⟩ : ∃ D, D = s'.length - a - b := ⟨_, rfl⟩
   have hDI : (s'.length : Int) - (a : Int) - (b : Int) = (D : Int) := by omega
   rw [← hD] at hG
   clear c1 c2 h1 h2
   by_cases c3 : D < L
   ·rw [if_pos c3] at hG
    have hdb : decide (D < L) = true := decide_eq_true c3
    have HP : Hid (Got3 G w (.returned (.tuple #[.slice none 0 0, .int .i64 10, .int .i64 ((at' : Int) + (a : Int) + (b : Int))])) wr) := hHd (Got3.err (o := at' + a + b) (by rw [hG]; rfl) hB)
    clear hG c3 hs0 hown hB hs1 hd1 hD
    go_wp2_with fail
    refine HC1.out.mono ?_
    rintro r w1 ⟨rfl, rfl⟩
    go_wp2_with fail
    refine HC2.out.mono ?_
    rintro r w1 ⟨rfl, rfl⟩
    go_wp2
    go_ret3
    exact HP.out
   rw [if_neg c3] at hG
   have hdb : decide (D < L) = false := decide_eq_false c3
   by_cases c4 : 6 < deep
   ·rw [if_pos c4] at hG
    have hdb2 : decide ((6 : Int) < (deep : Int)) = true := decide_eq_true (by omega)
    have HP : Hid (Got3 G w (.returned (.tuple #[.slice none 0 0, .int .i64 13, .int .i64 (at' : Int)])) wr) := hHd (Got3.err (o := at') (by rw [hG]; rfl) hB)
    clear hG c3 c4 hs0 hown hB hs1 hd1 hD
    go_wp2_with fail
    refine HC1.out.mono ?_
    rintro r w1 ⟨rfl, rfl⟩
    go_wp2_with fail
    refine HC2.out.mono ?_
    rintro r w1 ⟨rfl, rfl⟩
    go_wp2
    go_ret3
    exact HP.out
   rw [if_neg c4] at hG
   have hdb2 : decide ((6 : Int) < (deep : Int)) = false := decide_eq_false (by omega)
   have hdp6 : deep ≤ 6 := by omega
   obtain ⟨C, hC⟩ : ∃ C, C = (s'.drop (a + b)).take L := ⟨_, rfl⟩
   obtain ⟨s2, hs2⟩ : ∃ s2, s2 = s'.drop (a + b + L) := ⟨_, rfl⟩
   have hCl : C.length = L := by rw [hC, List.length_take, List.length_drop]; omega
   have hs2l : s2.length = s'.length - (a + b + L) := by rw [hs2, List.length_drop]
   rw [← hC, ← hs2] at hG
   have hL5 : L ≤ 100000 := by omega
   have habL : a + b + L ≤ s'.length := by omega
   have hx2 : (txt s').extract (a + b) (a + b + L) = txt C := by
    rw [txt_extract, hC, List.drop_take]
    congr 2
    omega
   have hx3 : (txt s').extract (a + b + L) s'.length = txt s2 := by rw [txt_extract, List.take_of_length_le (Nat.le_refl _), hs2]
   clear c3 c4 hs0 hs1 hD hC hs2
   by_cases hev : t % 2 = 0
   ·rw [if_pos hev, if_pos hev, fin_join (by rfl), ← joinF_app] at hG
    have hb1 : ((t : Int) % 2 == 0) = true := by
     have h : (t : Int) % 2 = 0 := by omega
     rw [h]; rfl
    have HG := hHd hG
    clear hG hev
    go_wp2_with fail
    refine HC1.out.mono ?_
    rintro r w1 ⟨rfl, rfl⟩
    go_wp2_with fail
    refine HC2.out.mono ?_
    rintro r w1 ⟨rfl, rfl⟩
    have z0 := hB.size
    have hB2 : Below w.heap.size w ((wr.alloc (.cells #[.int .u64 (t : Int), .string (txt C), .slice none 0 0] 79)).alloc (.cells #[.int .u64 (t : Int), .string (txt C), .slice none 0 0] 79)) := (hB.alloc z0 _).alloc (by simp only [World.size_alloc]; omega) _
    have hA2 : Below wr.heap.size wr ((wr.alloc (.cells #[.int .u64 (t : Int), .string (txt C), .slice none 0 0] 79)).alloc (.cells #[.int .u64 (t : Int), .string (txt C), .slice none 0 0] 79)) := bAl.alloc (by simp only [World.size_alloc]; omega) _
    have hown2 := hown.below stays_R hA2
    have hblk := Blk.new (wr.alloc (.cells #[.int .u64 (t : Int), .string (txt C), .slice none 0 0] 79)) 79 #[.int .u64 (t : Int), .string (txt C), .slice none 0 0]
    rw [World.size_alloc] at hblk
    have HOWN := hHd hown2
    have HB2 := hHd hB2
    have HBLK := hHd hblk
    have HT64 := hHd t64
    clear hA2 hown2 hown hB hB2 hblk t64
    go_wp2_with (at_builtin; refine wpList_append_it stays_R one_R Tryz.underlying47 Tryz.infoJ zeroI rfl (.tmp 101) (.tmp 103) rfl rfl w.heap.size _ p rfl HOWN.out (wr.heap.size + 1) rfl t C .nil (.string (txt C)) (.slice none 0 0) HBLK.out HT64.out rfl (FV.nil _ _) ?h1 ?h2 ?h3 ?_)
    case h1 => omega
    case h2 => omega
    case h3 => exact HB2.out.size
    intro v' w' hap
    have hb' := hap.below HOWN.out HB2.out.size
    have hown' := hap.1
    have hB' := HB2.out.trans hb'
    clear hap hb'
    go_wp2
    go_roundw
    case rel => exact ⟨m, s2, at' + (a + b + L), p.app (.cons t C .nil .nil), by omega, by omega, by omega, by rw [Fo.len_app]; simp only [Fo.len]; omega, by rw [hx3], by go_num, HG, hown', hB'⟩
    case measure => simp [txt_size]; omega
   ·rw [if_neg hev, if_neg hev] at hG
    have hb1 : ((t : Int) % 2 == 0) = false := by
     have h : (t : Int) % 2 = 1 := by omega
     rw [h]; rfl
    obtain ⟨K, hK⟩ : ∃ K, K = gt m C (deep + 1) (at' + a + b) := ⟨_, rfl⟩
    rw [← hK] at hG
    have z0 := hB.size
    have hA1 : Below wr.heap.size wr (wr.alloc (.cells #[.int .u64 (t : Int), .string ⟨#[]⟩, .slice none 0 0] 79)) := bAl
    have hB1 : Below w.heap.size w (wr.alloc (.cells #[.int .u64 (t : Int), .string ⟨#[]⟩, .slice none 0 0] 79)) := hB.alloc z0 _
    have hown1 := hown.below stays_R hA1
    have hblk1 := Blk.new wr 79 #[.int .u64 (t : Int), .string ⟨#[]⟩, .slice none 0 0]
    have HI3 : Hid (Calls Tryz.prog 62 #[.string (txt C), .int .i64 ((deep : Int) + 1), .int .i64 ((at' : Int) + (a : Int) + (b : Int))] (wr.alloc (.cells #[.int .u64 (t : Int), .string ⟨#[]⟩, .slice none 0 0] 79)) (Got3 K (wr.alloc (.cells #[.int .u64 (t : Int), .string ⟨#[]⟩, .slice none 0 0] 79)))) := hHd (by
     rw [hK]
     exact HI.out m (by omega) C (deep + 1) (at' + a + b) _ _ _ (by omega) (by omega) (by omega) (by omega) (by omega))
    have HT64 := hHd t64
    clear hev hK hB t64
    go_wp2_with fail
    refine HC1.out.mono ?_
    rintro r w1 ⟨rfl, rfl⟩
    go_wp2_with fail
    refine HC2.out.mono ?_
    rintro r w1 ⟨rfl, rfl⟩
    go_wp2_with fail
    refine HI3.out.mono ?_
    rintro r w3 ⟨kv, rfl, hkv, hb3⟩
    obtain ⟨A3, c3, rfl⟩ := hkv.shape
    have hz3 := hb3.size
    simp only [World.size_alloc] at hz3
    have hB3 := hB1.trans (hb3.mono hB1.size)
    have hown3 := hown1.below stays_R hb3
    have hblk3 : Blk w3 wr.heap.size 79 #[.int .u64 (t : Int), .string ⟨#[]⟩, .slice none 0 0] := hblk1.below hb3 (by simp only [World.size_alloc]; omega)
    by_cases hk0 : K.2.1 = 0
    ·have hk0b : (K.2.1 == 0) = true := by rw [hk0]; rfl
     have hk0c : (K.2.1 != 0) = false := by rw [hk0]; rfl
     rw [fin_join hk0, ← joinF_app] at hG
     have HG := hHd hG
     have f2 : w3.frozen? ⟨wr.heap.size, 2, none⟩ = false := hblk3.frozen 2
     have q0 : w3.cell? ⟨wr.heap.size, 0, none⟩ = some (.int .u64 (t : Int)) := by rw [hblk3.cell]; rfl
     have q1 : w3.cell? ⟨wr.heap.size, 1, none⟩ = some (.string ⟨#[]⟩) := by rw [hblk3.cell]; rfl
     have q2 : w3.cell? ⟨wr.heap.size, 2, none⟩ = some (.slice none 0 0) := by rw [hblk3.cell]; rfl
     have hBW : Below wr.heap.size wr ((w3.setCell ⟨wr.heap.size, 2, none⟩ (.slice A3 K.1.len c3)).alloc (.cells #[.int .u64 (t : Int), .string ⟨#[]⟩, .slice A3 K.1.len c3] 79)) :=
      ((hA1.trans (hb3.mono (by simp only [World.size_alloc]; omega))).setCell (p := ⟨wr.heap.size, 2, none⟩) (Nat.le_refl _) _).alloc (by simp only [World.setCell, Array.size_modify]; omega) _
     have hown4 := hown.below stays_R hBW
     have hB4 := (hB3.setCell (p := ⟨wr.heap.size, 2, none⟩) z0 (.slice A3 K.1.len c3)).alloc (by simp only [World.setCell, Array.size_modify]; omega) (.cells #[.int .u64 (t : Int), .string ⟨#[]⟩, .slice A3 K.1.len c3] 79)
     have hlt4 := fun k hk => (hown.lt k hk).2
     have hkv4 : FV DataR ((w3.setCell ⟨wr.heap.size, 2, none⟩ (.slice A3 K.1.len c3)).alloc (.cells #[.int .u64 (t : Int), .string ⟨#[]⟩, .slice A3 K.1.len c3] 79)) (ItsI w.heap.size ((w3.setCell ⟨wr.heap.size, 2, none⟩ (.slice A3 K.1.len c3)).alloc (.cells #[.int .u64 (t : Int), .string ⟨#[]⟩, .slice A3 K.1.len c3] 79)) u9) (.slice A3 K.1.len c3) K.1 :=
      hkv.kept stays_R (fun g hg => (Below.heap_alloc _ _ g (by have := hg.2; simp only [World.setCell, Array.size_modify]; omega)).trans (Below.heap_setCell w3 ⟨wr.heap.size, 2, none⟩ _ g (by have := hg.1; simp only [World.size_alloc] at this; show g ≠ wr.heap.size; omega)))
       (fun g hg => ⟨by have := hg.1; simp only [World.size_alloc] at this; omega, by have := hg.2; simp only [World.size_alloc, World.setCell, Array.size_modify]; omega, fun h => by have := hlt4 g h.symm; have := hg.1; simp only [World.size_alloc] at this; omega⟩)
     have hblk4 := Blk.new (w3.setCell ⟨wr.heap.size, 2, none⟩ (.slice A3 K.1.len c3)) 79 #[.int .u64 (t : Int), .string ⟨#[]⟩, .slice A3 K.1.len c3]
     have hsz3 : (w3.setCell ⟨wr.heap.size, 2, none⟩ (.slice A3 K.1.len c3)).heap.size = w3.heap.size := by simp [World.setCell]
     rw [hsz3] at hblk4
     have HOWN := hHd hown4
     have HB4 := hHd hB4
     have HKV := hHd hkv4
     have HBLK := hHd hblk4
     clear hG hk0 hown1 hblk1 hB1 hb3 hBW hown4 hB4 hkv4 hblk4 hsz3 hown hA1 hown3 hkv hlt4 hB3 hblk3
     go_wp2_with (at_builtin; refine wpList_append_it stays_R one_R Tryz.underlying47 Tryz.infoJ zeroI rfl (.tmp 101) (.tmp 103) rfl rfl w.heap.size _ p rfl HOWN.out w3.heap.size rfl t [] K.1 (.string ⟨#[]⟩) (.slice A3 K.1.len c3) HBLK.out HT64.out rfl HKV.out ?h1 ?h2 ?h3 ?_)
     case h1 => omega
     case h2 => omega
     case h3 => exact HB4.out.size
     intro v' w' hap
     have hb' := hap.below HOWN.out HB4.out.size
     have hown' := hap.1
     have hB' := HB4.out.trans hb'
     clear hap hb'
     go_wp2
     go_roundw
     case rel => exact ⟨m, s2, at' + (a + b + L), p.app (.cons t [] K.1 .nil), by omega, by omega, by omega, by rw [Fo.len_app]; simp only [Fo.len]; omega, by rw [hx3], by go_num, HG, hown', hB'⟩
     case measure => simp [txt_size]; omega
    ·have hk0b : (K.2.1 == 0) = false := beq_eq_false_iff_ne.2 hk0
     have hk0c : (K.2.1 != 0) = true := by unfold bne; rw [hk0b]; rfl
     have HP : Hid (Got3 G w (.returned (.tuple #[.slice none 0 0, .int .i64 K.2.1, .int .i64 (K.2.2 : Int)])) w3) := hHd (Got3.err (o := K.2.2) (by rw [hG]; unfold fin joinF; rw [if_pos hk0]; rw [if_neg hk0]) hB3)
     clear hG hk0 hown1 hblk1 hB1 hb3 hown3 hblk3 hkv
     go_wp2
     go_ret3
     exact HP.out
def gotOf (s : List UInt8) : Fo × Int × Nat := if 8192 < s.length then (.nil, 14, 0) else gt s.length s 1 0
theorem rgetall_any (s : List UInt8) (w : World) (hs : s.length ≤ 100000) : Calls Tryz.prog 33 #[.string (txt s)] w (Got3 (gotOf s) w) := by
 have hsz := txt_size s
 by_cases h : 8192 < s.length
 ·have hd : decide ((8192 : Int) < (s.length : Int)) = true := decide_eq_true (by omega)
  have HP : Hid (Got3 (gotOf s) w (.returned (.tuple #[.slice none 0 0, .int .i64 14, .int .i64 0])) w) := hHd (Got3.err (o := 0) (by unfold gotOf; rw [if_pos h]) (Below.refl _ _))
  clear h
  go_enter Tryz.func33, Tryz.ntmps33
  go_wp2
  go_ret3
  exact HP.out
 ·have hd : decide ((8192 : Int) < (s.length : Int)) = false := decide_eq_false (by omega)
  obtain ⟨G, hG⟩ : ∃ G, G = gotOf s := ⟨_, rfl⟩
  have HC : Hid (Calls Tryz.prog 62 #[.string (txt s), .int .i64 1, .int .i64 0] w (Got3 G w)) := hHd (by
   rw [hG]
   unfold gotOf
   rw [if_neg h]
   exact rget3_any s.length s 1 0 w _ _ (Nat.le_refl _) (by omega) (by omega) rfl rfl)
  rw [← hG]
  clear h hG
  go_enter Tryz.func33, Tryz.ntmps33
  go_wp2_with fail
  refine HC.out.mono ?_
  rintro r w1 ⟨v, rfl, hv, hb⟩
  obtain ⟨A, c, rfl⟩ := hv.shape
  have HV := hHd hv
  clear hv
  go_wp2
  go_ret3
  exact ⟨_, rfl, HV.out, hb⟩
structure Vl where
 kind : Int
 num : Nat
 text : List UInt8
theorem Vl.ext_ {a b : Vl} (h1 : a.kind = b.kind) (h2 : a.num = b.num) (h3 : a.text = b.text) : a = b := by cases a; cases b; simp_all
instance : DecidableEq Vl := fun a b => decidable_of_iff (a.kind = b.kind ∧ a.num = b.num ∧ a.text = b.text) ⟨fun ⟨h1, h2, h3⟩ => Vl.ext_ h1 h2 h3, fun h => by subst h; exact ⟨rfl, rfl, rfl⟩⟩
def leastB (x : Nat) : List UInt8 := bigB x (lenB 8 x)
def SpcD : RdOf SpD := fun w N cs a => ∃ nv kv d, cs = [.string (txt a.name), .int .i64 (a.kind : Int), .int .i64 (a.typ : Int), .int .u64 (a.low : Int), .int .u64 (a.high : Int), nv, .bool a.must, .int .i64 (a.most : Int), kv] ∧
 Vals w d nv (txts a.names) ∧ (0 < a.names.length → N d) ∧ kv.oneCell' = true
theorem txts_len (l : List (List UInt8)) : (txts l).length = l.length := by simp [txts]
theorem Vals.heap {w w' : World} {d : Nat} {v : Value} {xs : List Value} (h : Vals w d v xs) (hk : 0 < xs.length → w'.heap[d]? = w.heap[d]?) : Vals w' d v xs := by
 obtain ⟨A, c, rfl, h1, h2⟩ := h
 refine ⟨A, c, rfl, h1, fun h0 => ?_⟩
 obtain ⟨hlt, off, rfl, hc⟩ := h2 h0
 have hb := hk h0
 refine ⟨?_, off, rfl, fun j u hj => (World.cell?_of_block (w := w) (a := ⟨d, off + j, none⟩) hb).trans (hc j u hj)⟩
 rw [Array.getElem?_eq_getElem hlt] at hb
 exact (Array.getElem?_eq_some_iff.1 hb).1
theorem stay_spc : StayD SpcD := by
 intro w w' N N' cs a hk hN ⟨nv, kv, d, h1, h2, h3, h4⟩
 refine ⟨nv, kv, d, h1, h2.heap (fun h0 => hk d (h3 ?_)), fun h0 => hN d (h3 h0), h4⟩
 rwa [txts_len] at h0
abbrev SpN (w : World) (S N : Nat → Prop) (cs : List Value) (x : Sp) : Prop := FrN SpcD 9 8 w S N cs x.1 x.2
theorem SpN.shape {w : World} {S N : Nat → Prop} {cs : List Value} {x : Sp} (h : SpN w S N cs x) :
  ∃ B m A c d, cs = [.string (txt x.1.name), .int .i64 (x.1.kind : Int), .int .i64 (x.1.typ : Int), .int .u64 (x.1.low : Int), .int .u64 (x.1.high : Int), .slice B x.1.names.length m, .bool x.1.must, .int .i64 (x.1.most : Int), .slice A x.2.len c] ∧
   Vals w d (.slice B x.1.names.length m) (txts x.1.names) ∧ (0 < x.1.names.length → N d) ∧ FrV SpcD 9 8 w S N (.slice A x.2.len c) x.2 := by
 obtain ⟨_, ⟨nv, kv, d, rfl, h2, h3, _⟩, v, h5, h6⟩ := h
 obtain ⟨A, c, rfl⟩ := h6.shape
 simp at h5
 subst h5
 obtain ⟨B, m, e⟩ := h2.shape
 rw [txts_len] at e
 subst e
 exact ⟨B, m, A, c, d, rfl, h2, h3, h6⟩
theorem SpN.make {w : World} {S N : Nat → Prop} {a : SpD} {k : SpF} {nv kv : Value} {d : Nat} (h1 : Vals w d nv (txts a.names)) (h2 : 0 < a.names.length → N d) (h3 : FrV SpcD 9 8 w S N kv k) :
  SpN w S N [.string (txt a.name), .int .i64 (a.kind : Int), .int .i64 (a.typ : Int), .int .u64 (a.low : Int), .int .u64 (a.high : Int), nv, .bool a.must, .int .i64 (a.most : Int), kv] (a, k) := by
 refine ⟨rfl, ⟨nv, kv, d, rfl, h1, h2, ?_⟩, kv, rfl, h3⟩
 obtain ⟨A, c, rfl⟩ := h3.shape
 rfl
def Fresh (base : Nat) (w : World) (g : Nat) : Prop := base ≤ g ∧ ∃ cs t, w.heap[g]? = some (.cells cs t (0, 0))
theorem Fresh.lt {base : Nat} {w : World} {g : Nat} (h : Fresh base w g) : g < w.heap.size := by
 obtain ⟨_, cs, t, h⟩ := h
 exact (Array.getElem?_eq_some_iff.1 h).1
theorem Fresh.below {base : Nat} {w w' : World} {g : Nat} (h : Fresh base w g) (hb : Below w.heap.size w w') : Fresh base w' g := by
 have hl := h.lt
 obtain ⟨h0, cs, t, h⟩ := h
 exact ⟨h0, cs, t, (hb.block g hl).trans h⟩
def NewSp (base : Nat) (w : World) (cs : List Value) (x : Sp) : Prop := ∃ S N, (∀ g, S g → Fresh base w g) ∧ (∀ g, N g → Fresh base w g ∧ ¬ S g) ∧ SpN w S N cs x
def SpP (x : Sp × Nat) (w : World) (r : Ending) (w' : World) : Prop := ∃ cs, r = .returned (.tuple #[.agg cs.toArray, .int .i64 (x.2 : Int)]) ∧ NewSp w.heap.size w' cs x.1 ∧ Below w.heap.size w w'
section
variable {α : Type} {D : RdOf α} {e : TypeId} {K p : Nat} {w w' : World} {base : Nat} {S S' N N' : Nat → Prop} {v : Value} {f : Fr α}
theorem FrV.lit {g c : Nat} {xs : List Value} (hS : S g) (hb : Blk w g e xs.toArray) (hr : rowG D K p w S N xs f) (hc : f.len ≤ c) : FrV D K p w S N (.slice (some ⟨g, 0, none⟩) f.len c) f :=
 ⟨_, c, rfl, hc, fun _ => ⟨g, 0, rfl, hS, hr.at (fun j u hj => by
  rw [Nat.zero_add, hb.cell]
  simpa using hj)⟩⟩
theorem OwnK.lit {k n g : Nat} {xs : List Value} (hb : Blk w g e xs.toArray) (hg : base ≤ g) (hl : xs.length = n * k) (hn : n ≤ maxLen) : OwnK e k w base (.slice (some ⟨g, 0, none⟩) n n) n xs :=
 ⟨hl, .inr ⟨g, n, xs.toArray, rfl, hg, hb, Nat.le_refl _, hn, by simpa using hl, by simp [← hl]⟩⟩
theorem OwnG.lit {g : Nat} {xs : List Value} (hb : Blk w g e xs.toArray) (hg : base ≤ g) (hn : f.len ≤ maxLen) (hr : rowG D K p w S N xs f) (hS : ∀ k, S k → k < w.heap.size ∧ k ≠ g) (hN : ∀ k, N k → k < w.heap.size ∧ k ≠ g) : OwnG D e K p w base S N (.slice (some ⟨g, 0, none⟩) f.len f.len) f :=
 ⟨fun k hk => ⟨(hS k hk).1, by intro h; injection h with h; exact (hS k hk).2 h⟩, fun k hk => ⟨(hN k hk).1, by intro h; injection h with h; exact (hN k hk).2 h⟩, xs, OwnK.lit hb hg hr.len hn, hr⟩
theorem OwnG.grown (hD : StayD D) {row : Option Nat} (h : OwnG D e K p w base S N v f) (hg : w.grownBy w' row) (hne : v.ownBlock = none ∨ v.ownBlock ≠ row) (hS : ∀ g, S g → some g ≠ row) (hN : ∀ g, N g → some g ≠ row) : OwnG D e K p w' base S N v f := by
 obtain ⟨h1, h2, xs, h3, h4⟩ := h
 exact ⟨fun g hg' => ⟨Nat.lt_of_lt_of_le (h1 g hg').1 hg.size, (h1 g hg').2⟩, fun g hg' => ⟨Nat.lt_of_lt_of_le (h2 g hg').1 hg.size, (h2 g hg').2⟩, xs, h3.grown hg hne,
  h4.kept hD (fun g hg' => hg.block g (h1 g hg').1 (hS g hg')) (fun _ h => h) (fun g hg' => hg.block g (h2 g hg').1 (hN g hg')) (fun _ h => h)⟩
def AppG (D : RdOf α) (e : TypeId) (K p : Nat) (base : Nat) (S N : Nat → Prop) (w : World) (v : Value) (f : Fr α) (v' : Value) (w' : World) : Prop :=
 OwnG D e K p w' base S N v' f ∧ w.grownBy w' v.ownBlock ∧ (v'.ownBlock = v.ownBlock ∨ v'.ownBlock = some w.heap.size) ∧ ∃ g c, v' = .slice (some ⟨g, 0, none⟩) f.len c
theorem AppG.below {v' : Value} {g : Fr α} (h : AppG D e K p base S N w v g v' w') (hown : OwnG D e K p w base S N v f) (hb : base ≤ w.heap.size) : Below base w w' :=
 (Below.refl _ _).grown h.2.1 hb fun b e => (hown.lt b e).1
theorem wp_append_g {P : Program} (hD : StayD D) (hO : OneD D) {ts : TypeId} {z : Value} {bytes : Nat} (hu : P.underlying ts = some (.slice e))
  (hinfo : (P.info? e).map (fun i => (i.zero, i.size, i.bytes)) = some (some z, K, bytes)) (hz : z.cells.size = K) (hk : 0 < K) {o : Oper} {a : Act} {K' : Act → World → Prop} {Q : Exit → Act → World → Prop} (s x : Operand)
  (ho : o.op = .call { callee := .builtin .append, args := #[s, x], argTypes := #[ts, ts] }) (hty : o.type = ts)
  (hs : a.eval s = v) (hown : OwnG D e K p w base S N v f) {g : Nat} (hx : a.eval x = .slice (some ⟨g, 0, none⟩) 1 1)
  {ys : List Value} {d : α} {q : Fr α} (hblk : Blk w g e ys.toArray) (hy : FrN D K p w S N ys d q)
  (hb : (f.len + 1) * bytes ≤ 140737488355328) (hlen : f.len + 1 ≤ 140737488355328) (hbase : base ≤ w.heap.size)
  (hK : ∀ v' w', AppG D e K p base S N w v (f.app (.cons d q .nil)) v' w' → K' (a.put o.dst v') w') : o.wp P a w K' Q := by
 obtain ⟨hS, hN, xs, h1, h2⟩ := hown
 have hown : OwnG D e K p w base S N v f := ⟨hS, hN, xs, h1, h2⟩
 refine wp_append_k hu hinfo hz hk s x ho hty base v f.len xs hs h1 g hx ys hblk hy.1 (hO _ _ _ _ hy.2.1) hb hlen hbase fun v' w' hap => hK v' w' ?_
 obtain ⟨k1, k2, k3, gg, c, k4⟩ := hap
 have hl : (f.app (.cons d q .nil)).len = f.len + 1 := by rw [Fr.len_app]; rfl
 exact ⟨hown.app hD h2 (by rw [hl]; exact k1) k2 k3 (rowG.one hy), k2, k3, gg, c, by rw [hl]; exact k4⟩
end
theorem txt_catS (a b : List UInt8) : txt a ++ txt b = txt (a ++ b) := by
 apply txt_ext
 rw [ByteArray.data_append, Array.toList_append, txt_data, txt_data, txt_data]
def RIdentP (s : List UInt8) (w : World) (r : Ending) (w' : World) : Prop := r = .returned (.bool (identX s)) ∧ w = w'
def idL (s : List UInt8) (k : Nat) : Prop := (∀ c, 0 < k → s[0]? = some c → smB c = true) ∧ ∀ j c, j < k → s[j]? = some c → nmB c = true
theorem idL_all {s : List UInt8} (h : idL s s.length) : identX s = (!s.isEmpty && decide (s.length ≤ 12)) := by
 cases s with
 | nil => rfl
 | cons c r =>
  have h1 := h.1 c (by simp) rfl
  have h2 : r.all nmB = true := List.all_eq_true.2 (fun d hd => by
   obtain ⟨j, hj, rfl⟩ := List.getElem_of_mem hd
   exact h.2 (j + 1) _ (by simp; omega) (by rw [List.getElem?_cons_succ]; exact List.getElem?_eq_getElem hj))
  simp [identX, h1, h2]
theorem id_bad {s : List UInt8} {k : Nat} {c : UInt8} (hc : s[k]? = some c) (h : smB c = false) (h2 : k = 0 ∨ nmB c = false) : identX s = false := by
 cases s with
 | nil => rfl
 | cons d r =>
  cases k with
  | zero =>
   simp at hc
   subst hc
   simp [identX, h]
  | succ k =>
   have h3 : nmB c = false := by rcases h2 with h2 | h2; cases h2; exact h2
   have h4 : r.all nmB = false := List.all_eq_false.2 ⟨c, List.mem_of_getElem? (by simpa using hc), by rw [h3]; decide⟩
   simp [identX, h4]
theorem idL_step {s : List UInt8} {k : Nat} {c : UInt8} (hc : s[k]? = some c) (h : idL s k) (h1 : smB c = true ∨ (k ≠ 0 ∧ nmB c = true)) : idL s (k + 1) := by
 have hn : nmB c = true := by rcases h1 with h1 | h1; exact sm_nm h1; exact h1.2
 refine ⟨fun d _ hd => ?_, fun j d hj hd => ?_⟩
 ·by_cases e : k = 0
  ·subst e
   rw [hc] at hd
   injection hd with hd
   rcases h1 with h1 | h1
   ·rw [← hd]; exact h1
   ·exact absurd rfl h1.1
  ·exact h.1 d (by omega) hd
 ·by_cases e : j = k
  ·subst e
   rw [hc] at hd
   injection hd with hd
   rw [← hd]; exact hn
  ·exact h.2 j d (by omega) hd
theorem sm_cases (c : UInt8) : (smB c = true ∧ 97 ≤ (c.toNat : Int) ∧ (c.toNat : Int) ≤ 122) ∨ (smB c = false ∧ (¬ 97 ≤ (c.toNat : Int) ∨ (97 ≤ (c.toNat : Int) ∧ ¬ (c.toNat : Int) ≤ 122))) := by
 unfold smB
 by_cases h1 : 97 ≤ c.toNat
 ·by_cases h2 : c.toNat ≤ 122
  ·exact .inl ⟨by simp [h1, h2], by omega, by omega⟩
  ·exact .inr ⟨by simp [h2], .inr ⟨by omega, by omega⟩⟩
 ·exact .inr ⟨by simp [h1], .inl (by omega)⟩
theorem nm_cases {c : UInt8} (h : smB c = false) : (nmB c = true ∧ (((c.toNat : Int) == 45) = true ∨ (((c.toNat : Int) == 45) = false ∧ ¬ (c.toNat : Int) < 48 ∧ ¬ 57 < (c.toNat : Int)))) ∨
  (nmB c = false ∧ ((c.toNat : Int) == 45) = false ∧ ((c.toNat : Int) < 48 ∨ (¬ (c.toNat : Int) < 48 ∧ 57 < (c.toNat : Int)))) := by
 have e45 : c = 45 ↔ c.toNat = 45 := by
  rw [← UInt8.toNat_inj]
  rfl
 unfold nmB
 rw [h]
 by_cases h0 : c = 45
 ·have h45 := e45.1 h0
  exact .inl ⟨by simp [h0], .inl (by simp; omega)⟩
 ·have hn : (c == 45) = false := beq_eq_false_iff_ne.2 h0
  have hm : ((c.toNat : Int) == 45) = false := beq_eq_false_iff_ne.2 (fun e => h0 (e45.2 (by omega)))
  by_cases h1 : 48 ≤ c.toNat
  ·by_cases h2 : c.toNat ≤ 57
   ·exact .inl ⟨by simp [h1, h2], .inr ⟨hm, by omega, by omega⟩⟩
   ·exact .inr ⟨by simp [h2, hn], hm, .inr ⟨by omega, by omega⟩⟩
  ·exact .inr ⟨by simp [h1, hn], hm, .inl (by omega)⟩
theorem rident_any (s : List UInt8) (hs : s.length ≤ 9223372036854775807) (w : World) : Calls Tryz.prog 54 #[.string (txt s)] w (RIdentP s w) := by
 have hsz := txt_size s
 have ts : (txt s).toList = s := txt_toList s
 go_enter Tryz.func54, Tryz.ntmps54
 go_wp2
 go_loop [3] (fun i => ∃ k : Nat, k ≤ s.length ∧ i = .int .i64 (k : Int) ∧ Hid (idL s k)) (fun i => s.length - (intOf i).toNat)
 case atStart => exact ⟨0, by omega, rfl, hHd ⟨fun c h => by omega, fun j c h => by omega⟩⟩
 case round =>
  obtain ⟨k, hk, rfl, HK⟩ := hrel
  by_cases h1 : k < s.length
  ·have d1 : (k : Int) < (s.length : Int) := by omega
   obtain ⟨c, hc⟩ : ∃ c, s[k]? = some c := ⟨_, List.getElem?_eq_getElem h1⟩
   have hin : k < (txt s).size := by rw [hsz]; exact h1
   have hix : (((txt s)[k]'hin).toNat : Int) = (c.toNat : Int) := by rw [txt_get s k h1 hin]; rw [List.getElem?_eq_getElem h1] at hc; injection hc with hc; rw [hc]
   have HC := hHd hc
   rcases sm_cases c with ⟨hb, g1, g2⟩ | ⟨hb, g⟩
   ·have HS := hHd (idL_step hc HK.out (.inl hb))
    clear hc hb HK
    generalize c.toNat = m at hix g1 g2
    go_wp2
    go_round
    case rel => exact ⟨k + 1, by omega, by go_num, HS⟩
    case measure => simp [intOf]; omega
   ·have hk0 : (k = 0 ∧ Hid (identX s = false)) ∨ (((k : Int) == 0) = false ∧ Hid (k ≠ 0)) := by
     by_cases e : k = 0
     ·exact .inl ⟨e, hHd (id_bad hc hb (.inl e))⟩
     ·exact .inr ⟨beq_eq_false_iff_ne.2 (by omega), hHd e⟩
    rcases hk0 with ⟨rfl, HF⟩ | ⟨n0, HN0⟩
    ·clear hc hb HK
     generalize c.toNat = m at hix g
     rcases g with g | ⟨g, g'⟩
     all_goals
      go_wp2
      go_ret
      exact ⟨by rw [HF.out]; rfl, rfl⟩
    rcases nm_cases hb with ⟨hn, q⟩ | ⟨hn, q1, q⟩
    ·have HS := hHd (idL_step hc HK.out (.inr ⟨HN0.out, hn⟩))
     clear hc hb HK hn
     generalize c.toNat = m at hix g q
     have qq : (((m : Int) == 45) = true ∧ ((m : Int) != 45) = false) ∨ ((((m : Int) == 45) = false ∧ ((m : Int) != 45) = true) ∧ ¬ (m : Int) < 48 ∧ ¬ 57 < (m : Int)) := by
      rcases q with q | ⟨q, q'⟩
      ·exact .inl ⟨q, by unfold bne; rw [q]; rfl⟩
      ·exact .inr ⟨⟨q, by unfold bne; rw [q]; rfl⟩, q'⟩
     clear q
     rcases g with g | ⟨g, g'⟩ <;> rcases qq with ⟨q0, q⟩ | ⟨⟨q0, q⟩, q', q''⟩
     all_goals
      go_wp2
      go_round
      case rel => exact ⟨k + 1, by omega, by go_num, HS⟩
      case measure => simp [intOf]; omega
    ·have HF : Hid (identX s = false) := hHd (id_bad hc hb (.inr hn))
     clear hc hb HK hn
     generalize c.toNat = m at hix g q q1
     have q2 : ((m : Int) != 45) = true := by unfold bne; rw [q1]; rfl
     rcases g with g | ⟨g, g'⟩ <;> rcases q with q | ⟨q, q'⟩
     all_goals
      go_wp2
      go_ret
      exact ⟨by rw [HF.out]; rfl, rfl⟩
  ·obtain rfl : k = s.length := by omega
   have HV := hHd (idL_all HK.out)
   have hw : (s = []) ∨ (s.isEmpty = false ∧ ¬ (s.length : Int) ≤ 12) ∨ (s.isEmpty = false ∧ (s.length : Int) ≤ 12) := by
    cases s with
    | nil => exact .inl rfl
    | cons a r =>
     by_cases h : (a :: r).length ≤ 12
     ·exact .inr (.inr ⟨rfl, by omega⟩)
     ·exact .inr (.inl ⟨rfl, by omega⟩)
   clear HK h1
   rcases hw with rfl | ⟨hE, d⟩ | ⟨hE, d⟩
   ·go_wp2
    go_ret
    exact ⟨by rw [HV.out]; rfl, rfl⟩
   ·have HV2 : Hid (identX s = false) := hHd (by rw [HV.out, hE, Bool.not_false, Bool.true_and]; exact decide_eq_false (by omega))
    clear HV
    go_wp2
    go_ret
    exact ⟨by rw [HV2.out]; rfl, rfl⟩
   ·have HV2 : Hid (identX s = true) := hHd (by rw [HV.out, hE, Bool.not_false, Bool.true_and]; exact decide_eq_true (by omega))
    clear HV
    go_wp2
    go_ret
    exact ⟨by rw [HV2.out]; rfl, rfl⟩
theorem txt_append8 (a b : List UInt8) : txt a ++ txt b = txt (a ++ b) := by
 apply txt_ext
 rw [ByteArray.data_append, Array.toList_append, txt_data, txt_data, txt_data]
theorem lit18 (w : World) (b : UInt8) : Rd (w.alloc (.cells #[byteV b] 5)) w.heap.size (.slice (some ⟨w.heap.size, 0, none⟩) 1 1) [b] :=
 Rd.of_blk (l := [b]) (Blk.new w 5 _) (by simp)
theorem bigB_cons8 (x k : Nat) : bigB x (k + 1) = UInt8.ofNat (x / 256 ^ k) :: bigB x k := by
 unfold bigB
 rw [List.range_succ_eq_map, List.map_cons, List.map_map]
 congr 1
 refine List.map_congr_left fun j hj => ?_
 have hj := List.mem_range.1 hj
 show UInt8.ofNat (x / 256 ^ (k + 1 - 1 - (j + 1))) = _
 congr 3
 omega
def ROneP8 (x : Nat) (w : World) (r : Ending) (w' : World) : Prop := r = .returned (.string (txt [UInt8.ofNat x])) ∧ Below w.heap.size w w'
theorem rone8_any (x : Nat) (w : World) : Calls Tryz.prog 99 #[.int .u64 (x : Int)] w (ROneP8 x w) := by
 obtain ⟨q, hq⟩ : ∃ q, q = x % 256 := ⟨_, rfl⟩
 have hqI : (x : Int) % 256 = (q : Int) := by omega
 have hq8 : q < 256 := by omega
 have hst : (convert 25 9 (.slice (some ⟨w.heap.size, 0, none⟩) 1 1)).run Tryz.prog (w.alloc (.cells #[.int .u8 (q : Int)] 5)) = .ok (.string (txt [UInt8.ofNat x])) (w.alloc (.cells #[.int .u8 (q : Int)] 5)) := by
  have hb : byteV (UInt8.ofNat x) = .int .u8 (q : Int) := by unfold byteV; rw [ofNat_toNat, hq]
  rw [← hb]
  exact str_of (lit18 w _)
 clear hq
 go_enter Tryz.func99, Tryz.ntmps99
 go_wp2
 go_ret
 exact ⟨rfl, bAl⟩
theorem least_is {x k : Nat} (hx : x < 18446744073709551616) (h0 : x / 256 ^ k = 0) (h1 : ∀ j, j < k → x / 256 ^ j ≠ 0) : k = lenB 8 x := by
 obtain ⟨g1, g2, g3⟩ := lenB_spec 8 x (by omega)
 rcases Nat.lt_trichotomy k (lenB 8 x) with h | h | h
 ·have h2 := g2 (by omega)
  have h3 : x < 256 ^ k := by
   rcases Nat.div_eq_zero_iff.1 h0 with e | e
   ·have : 0 < 256 ^ k := Nat.pow_pos (by omega)
    omega
   ·exact e
  have h4 : 256 ^ k ≤ 256 ^ (lenB 8 x - 1) := Nat.pow_le_pow_right (by omega) (by omega)
  omega
 ·exact h
 ·exact absurd (Nat.div_eq_of_lt g1) (h1 _ h)
def RLeastP8 (x : Nat) (w : World) (r : Ending) (w' : World) : Prop := r = .returned (.string (txt (leastB x))) ∧ Below w.heap.size w w'
theorem rleast8_any (x : Nat) (w : World) (hx : x < 18446744073709551616) : Calls Tryz.prog 72 #[.int .u64 (x : Int)] w (RLeastP8 x w) := by
 go_enter Tryz.func72, Tryz.ntmps72
 go_wp2
 go_loopw [0, 3] (fun y s wr => ∃ (k Y : Nat) (T : List UInt8), y = .int .u64 (Y : Int) ∧ s = .string (txt T) ∧ Y < 18446744073709551616 ∧ k ≤ 8 ∧ Hid (Y = x / 256 ^ k) ∧ Hid (T = bigB x k) ∧ T.length ≤ 8 ∧ Hid (∀ j, j < k → x / 256 ^ j ≠ 0) ∧ Below w.heap.size w wr) (fun y _ _ => (intOf y).toNat)
 case atStart => exact ⟨0, x, [], rfl, rfl, hx, by omega, hHd (by simp), hHd rfl, by simp, hHd (fun j h => by omega), Below.refl _ _⟩
 case round =>
  obtain ⟨k, Y, T, rfl, rfl, hY, hk, HY, HT, hT8, HN, hB⟩ := hrel
  by_cases hlt : 0 < Y
  ·have hk7 : k < 8 := by
    rcases Nat.lt_or_ge k 8 with h | h
    ·exact h
    ·have e : k = 8 := by omega
     have h2 := HY.out
     rw [e, Nat.div_eq_of_lt (by omega)] at h2
     omega
   have i1 : (0 : Int) < (Y : Int) := by omega
   obtain ⟨b, hb⟩ : ∃ b, b = UInt8.ofNat Y := ⟨_, rfl⟩
   obtain ⟨T', hT'⟩ : ∃ T', T' = b :: T := ⟨_, rfl⟩
   have hcat : txt [b] ++ txt T = txt T' := by rw [hT']; exact txt_append8 [b] T
   have s1 := txt_size [b]
   have s2 := txt_size T
   have hl1 : ([b] : List UInt8).length = 1 := rfl
   rw [hl1] at s1
   have hc : ¬ 9223372036854775807 < 1 + T.length := by omega
   have HN2 : Hid (T' = bigB x (k + 1)) := hHd (by rw [bigB_cons8, hT', hb, HT.out, HY.out])
   have hT8' : T'.length ≤ 8 := by
    have h := HN2.out
    rw [h, bigB_length]; omega
   obtain ⟨Y', hY'⟩ : ∃ Y', Y' = Y / 256 := ⟨_, rfl⟩
   have hYI : (Y : Int) / 256 = (Y' : Int) := by omega
   have hY64 : Y' < 18446744073709551616 := by omega
   have HLT : Hid (Y' < Y) := hHd (by rw [hY']; exact Nat.div_lt_self hlt (by omega))
   have HYN : Hid (Y' = x / 256 ^ (k + 1)) := hHd (by rw [hY', HY.out, Nat.div_div_eq_div_mul, Nat.pow_succ])
   have HNN : Hid (∀ j, j < k + 1 → x / 256 ^ j ≠ 0) := hHd (fun j hj => by
    by_cases e : j = k
    ·subst e; rw [← HY.out]; omega
    ·exact HN.out j (by omega))
   have HONE : Hid (Calls Tryz.prog 99 #[.int .u64 (Y : Int)] wr (fun r w' => r = .returned (.string (txt [b])) ∧ Below wr.heap.size wr w')) := hHd (by rw [hb]; exact rone8_any Y wr)
   clear hb hT' hY' hl1
   go_wp2_with fail
   refine HONE.out.mono ?_
   rintro r w1 ⟨rfl, hb1⟩
   have hB1 := hB.trans (hb1.mono hB.size)
   clear hB hb1
   go_wp2
   go_roundw
   case rel => exact ⟨k + 1, Y', T', by go_num, rfl, hY64, by omega, HYN, HN2, hT8', HNN, hB1⟩
   case measure => have := HLT.out; simp [intOf]; omega
  ·have i1 : ¬ (0 : Int) < (Y : Int) := by omega
   have HE : Hid (T = leastB x) := hHd (by rw [HT.out, least_is hx (by have := HY.out; omega) HN.out]; rfl)
   go_wp2
   go_ret
   exact ⟨by rw [HE.out]; rfl, hB⟩
end Go.Proofs.YtleidkpdpabkpaaGreatDoor
