/-
  What the document's get and Get answer for bytes (package tollbarref03). No condition but those of each theorem.
-/
import Derived.Test.YtdpaijechogmlaaTlvPlain
import Derived.Test.YtdpaijechogmlaaVarRefB
import Derived.Outline
namespace Go.Proofs.Ytdpaijechogmlaa
open Go.RowKit
set_option linter.unusedSimpArgs false

/-- What was read behind what was read ahead. -/
def joinF (p : Fo) (x : Fo × Int × Nat) : Fo × Int × Nat := if x.2.1 = 0 then (p.app x.1, 0, 0) else (.nil, x.2.1, x.2.2)
theorem joinF_app (p q : Fo) (x : Fo × Int × Nat) : joinF (p.app q) x = joinF p (joinF q x) := by
  unfold joinF
  by_cases h : x.2.1 = 0
  · rw [if_pos h, if_pos h]; simp [Fo.app_assoc]
  · rw [if_neg h, if_neg h, if_neg h]
theorem fin_join {t : Nat} {d : List UInt8} {k r : Fo × Int × Nat} (h : k.2.1 = 0) : fin t d k r = joinF (.cons t d k.1 .nil) r := by
  unfold fin joinF
  rw [if_neg (by rw [h]; decide)]
  by_cases h2 : r.2.1 = 0
  · rw [if_neg (by rw [h2]; decide), if_pos h2]; rfl
  · rw [if_pos h2, if_neg h2]
theorem gt_zero (n : Nat) (s : List UInt8) (deep at_ : Nat) (h : (gt n s deep at_).2.1 = 0) : (gt n s deep at_).2.2 = 0 := by
  cases n with
  | zero => rfl
  | succ n =>
    by_cases hs : s = []
    · subst hs; rw [gt_nil]
    · obtain ⟨t, a, e, h1⟩ : ∃ t a e, getV s = (t, a, e) := ⟨_, _, _, rfl⟩
      obtain ⟨long, b, f, h2⟩ : ∃ t b e, getV (s.drop a) = (t, b, e) := ⟨_, _, _, rfl⟩
      rw [gt_step hs h1 h2] at h ⊢
      by_cases c1 : e ≠ 0
      · rw [if_pos c1] at h; exact absurd h c1
      rw [if_neg c1] at h ⊢
      by_cases c2 : f ≠ 0
      · rw [if_pos c2] at h; exact absurd h c2
      rw [if_neg c2] at h ⊢
      by_cases c3 : s.length - a - b < long
      · rw [if_pos c3] at h; exact absurd (show (10 : Int) = 0 from h) (by decide)
      rw [if_neg c3] at h ⊢
      by_cases c4 : 6 < deep
      · rw [if_pos c4] at h; exact absurd (show (13 : Int) = 0 from h) (by decide)
      rw [if_neg c4] at h ⊢
      rw [(fin_ok h).2.2]
theorem joinF_nil (n : Nat) (s : List UInt8) (deep at_ : Nat) : joinF .nil (gt n s deep at_) = gt n s deep at_ := by
  unfold joinF
  by_cases h : (gt n s deep at_).2.1 = 0
  · rw [if_pos h]
    exact Prod.ext rfl (Prod.ext h.symm (gt_zero n s deep at_ h).symm)
  · rw [if_neg h]
    exact Prod.ext (gt_err n s deep at_ h).symm rfl

def Got3 (x : Fo × Int × Nat) (w : World) (r : Ending) (w' : World) : Prop :=
  ∃ v, r = .returned (.tuple #[v, .int .i64 x.2.1, .int .i64 (x.2.2 : Int)]) ∧ FV DataR w' (Mine w.heap.size w') v x.1 ∧ Below w.heap.size w w'

theorem Got3.err {x : Fo × Int × Nat} {e : Int} {o : Nat} {w w' : World} (hx : x = (.nil, e, o)) (hb : Below w.heap.size w w') : Got3 x w (.returned (.tuple #[.slice none 0 0, .int .i64 e, .int .i64 (o : Int)])) w' := by
  subst hx
  exact ⟨_, rfl, FV.nil _ _, hb⟩

/-- The document's Get of numbers, its answer by name. -/
theorem rget_at (s : List UInt8) (t a : Nat) (e : Int) (w : World) (hs : s.length ≤ 100000) (h : getV s = (t, a, e)) :
    Calls Try.prog 40 #[.string (txt s)] w fun r w' => r = .returned (.tuple #[.int .u64 (t : Int), .int .i64 (a : Int), .int .i64 e]) ∧ w = w' :=
  (rget_any s w hs).mono fun r w' hp => by
    unfold RGetPost getOut at hp
    rw [h] at hp
    exact hp

set_option maxRecDepth 100000 in
set_option maxHeartbeats 8000000 in
theorem rget3_any (n : Nat) : ∀ (s : List UInt8) (deep at_ : Nat) (w : World) (dI aI : Int), s.length ≤ n → at_ + s.length ≤ 100000 → deep ≤ 7 → dI = (deep : Int) → aI = (at_ : Int) →
    Calls Try.prog 34 #[.string (txt s), .int .i64 dI, .int .i64 aI] w (Got3 (gt n s deep at_) w) := by
  induction n using Nat.strongRecOn with
  | ind n ih =>
  intro s deep at_ w dI aI hn hs hdeep hdI haI
  subst hdI haI
  have HI : Hid (∀ m, m < n → ∀ (s : List UInt8) (deep at_ : Nat) (w : World) (dI aI : Int), s.length ≤ m → at_ + s.length ≤ 100000 → deep ≤ 7 → dI = (deep : Int) → aI = (at_ : Int) →
    Calls Try.prog 34 #[.string (txt s), .int .i64 dI, .int .i64 aI] w (Got3 (gt m s deep at_) w)) := Lib.hid ih
  obtain ⟨G, hG⟩ : ∃ G, G = gt n s deep at_ := ⟨_, rfl⟩
  rw [← hG]
  have HG0 : Hid (G = joinF .nil (gt n s deep at_)) := Lib.hid (by rw [joinF_nil]; exact hG)
  clear ih hG
  go_enter Try.func34, Try.ntmps34
  go_wp2
  go_loopw [0, 2, 9] (fun x i u wr => ∃ (m : Nat) (s' : List UInt8) (at' : Nat) (p : Fo), m ≤ n ∧ s'.length ≤ m ∧ at' + s'.length ≤ 100000 ∧ p.len + s'.length ≤ 100000 ∧ x = .string (txt s') ∧ i = .int .i64 (at' : Int) ∧ Hid (G = joinF p (gt m s' deep at')) ∧ OwnF DataR 49 wr w.heap.size u p ∧ Below w.heap.size w wr) (fun x _ _ _ => match x with | .string b => b.size | _ => 0)
  case atStart => exact ⟨n, s, at_, .nil, Nat.le_refl _, hn, hs, by simp only [Fo.len]; omega, rfl, rfl, HG0, OwnF.nil _ _, Below.refl _ _⟩
  case round =>
    obtain ⟨m, s', at', p, hmn, hsm, hs5, hp5, rfl, rfl, HG, hown, hB⟩ := hrel
    have hsz := txt_size s'
    by_cases hs0 : s' = []
    · subst hs0
      have hnb := txt_none
      have hGe : G = (p, 0, 0) := by rw [HG.out, gt_nil]; unfold joinF; rw [if_pos rfl, Fo.app_nil]
      have hfv := hown.fv stays_R
      obtain ⟨A3, c3, rfl⟩ := hfv.shape
      have HP : Hid (Got3 G w (.returned (.tuple #[.slice A3 p.len c3, .int .i64 0, .int .i64 0])) wr) := Lib.hid (by rw [hGe]; exact ⟨_, rfl, hfv, hB⟩)
      clear hGe hfv hown hB
      go_wp2
      go_ret3
      exact HP.out
    · have hnb := txt_some (l := s') (List.length_pos_iff.2 hs0)
      obtain ⟨m, rfl⟩ : ∃ m', m = m' + 1 := ⟨m - 1, by have := List.length_pos_iff.2 hs0; omega⟩
      obtain ⟨t, a, e, h1⟩ : ∃ t a e, getV s' = (t, a, e) := ⟨_, _, _, rfl⟩
      obtain ⟨L, b, e2, h2⟩ : ∃ t b e, getV (s'.drop a) = (t, b, e) := ⟨_, _, _, rfl⟩
      have hG := HG.out
      rw [gt_step hs0 h1 h2] at hG
      clear HG
      have HC1 := Lib.hid (rget_at s' t a e wr (by omega) h1)
      by_cases c1 : e ≠ 0
      · rw [if_pos c1] at hG
        have hb1 : (e == 0) = false := by simpa using c1
        have hb2 : (e != 0) = true := by simpa using c1
        have HP : Hid (Got3 G w (.returned (.tuple #[.slice none 0 0, .int .i64 e, .int .i64 (at' : Int)])) wr) := Lib.hid (Got3.err (by rw [hG]; unfold joinF; rw [if_neg c1]) hB)
        clear hG c1 h1 h2 hs0 hown hB
        go_wp2_with fail
        refine HC1.out.mono ?_
        rintro r w1 ⟨rfl, rfl⟩
        go_wp2
        go_ret3
        exact HP.out
      rw [if_neg c1] at hG
      obtain rfl : e = 0 := Decidable.not_not.1 c1
      have o1 := getV_own s' (by rw [h1])
      rw [h1] at o1
      obtain ⟨a1, a2, -, t64, -⟩ := o1
      dsimp only at a1 a2 t64
      have hx1 : (txt s').extract a s'.length = txt (s'.drop a) := by rw [txt_extract, List.take_of_length_le (Nat.le_refl _)]
      have hd1 : (s'.drop a).length = s'.length - a := List.length_drop
      obtain ⟨s1, hs1⟩ : ∃ s1, s1 = s'.drop a := ⟨_, rfl⟩
      rw [← hs1] at hx1 hd1 h2
      have HC2 := Lib.hid (rget_at s1 L b e2 wr (by omega) h2)
      by_cases c2 : e2 ≠ 0
      · rw [if_pos c2] at hG
        have hb1 : (e2 == 0) = false := by simpa using c2
        have hb2 : (e2 != 0) = true := by simpa using c2
        have HP : Hid (Got3 G w (.returned (.tuple #[.slice none 0 0, .int .i64 e2, .int .i64 ((at' : Int) + (a : Int))])) wr) := Lib.hid (Got3.err (o := at' + a) (by rw [hG]; unfold joinF; rw [if_neg c2]) hB)
        clear hG c1 c2 h1 h2 hs0 hown hB hs1 hd1
        go_wp2_with fail
        refine HC1.out.mono ?_
        rintro r w1 ⟨rfl, rfl⟩
        go_wp2_with fail
        refine HC2.out.mono ?_
        rintro r w1 ⟨rfl, rfl⟩
        go_wp2
        go_ret3
        exact HP.out
      rw [if_neg c2] at hG
      obtain rfl : e2 = 0 := Decidable.not_not.1 c2
      have o2 := getV_own s1 (by rw [h2])
      rw [h2] at o2
      obtain ⟨b1, b2, -, l64, -⟩ := o2
      dsimp only at b1 b2 l64
      obtain ⟨D, hD⟩ : ∃ D, D = s'.length - a - b := ⟨_, rfl⟩
      have hDI : (s'.length : Int) - (a : Int) - (b : Int) = (D : Int) := by omega
      rw [← hD] at hG
      clear c1 c2 h1 h2
      by_cases c3 : D < L
      · rw [if_pos c3] at hG
        have hdb : decide (D < L) = true := decide_eq_true c3
        have HP : Hid (Got3 G w (.returned (.tuple #[.slice none 0 0, .int .i64 10, .int .i64 ((at' : Int) + (a : Int) + (b : Int))])) wr) := Lib.hid (Got3.err (o := at' + a + b) (by rw [hG]; rfl) hB)
        clear hG c3 hs0 hown hB hs1 hd1 hD
        go_wp2_with fail
        refine HC1.out.mono ?_
        rintro r w1 ⟨rfl, rfl⟩
        go_wp2_with fail
        refine HC2.out.mono ?_
        rintro r w1 ⟨rfl, rfl⟩
        go_wp2
        go_ret3
        exact HP.out
      rw [if_neg c3] at hG
      have hdb : decide (D < L) = false := decide_eq_false c3
      by_cases c4 : 6 < deep
      · rw [if_pos c4] at hG
        have hdb2 : decide ((6 : Int) < (deep : Int)) = true := decide_eq_true (by omega)
        have HP : Hid (Got3 G w (.returned (.tuple #[.slice none 0 0, .int .i64 13, .int .i64 (at' : Int)])) wr) := Lib.hid (Got3.err (o := at') (by rw [hG]; rfl) hB)
        clear hG c3 c4 hs0 hown hB hs1 hd1 hD
        go_wp2_with fail
        refine HC1.out.mono ?_
        rintro r w1 ⟨rfl, rfl⟩
        go_wp2_with fail
        refine HC2.out.mono ?_
        rintro r w1 ⟨rfl, rfl⟩
        go_wp2
        go_ret3
        exact HP.out
      rw [if_neg c4] at hG
      have hdb2 : decide ((6 : Int) < (deep : Int)) = false := decide_eq_false (by omega)
      have hdp6 : deep ≤ 6 := by omega
      obtain ⟨C, hC⟩ : ∃ C, C = (s'.drop (a + b)).take L := ⟨_, rfl⟩
      obtain ⟨s2, hs2⟩ : ∃ s2, s2 = s'.drop (a + b + L) := ⟨_, rfl⟩
      have hCl : C.length = L := by rw [hC, List.length_take, List.length_drop]; omega
      have hs2l : s2.length = s'.length - (a + b + L) := by rw [hs2, List.length_drop]
      rw [← hC, ← hs2] at hG
      have hL5 : L ≤ 100000 := by omega
      have habL : a + b + L ≤ s'.length := by omega
      have hx2 : (txt s').extract (a + b) (a + b + L) = txt C := by
        rw [txt_extract, hC, List.drop_take]
        congr 2
        omega
      have hx3 : (txt s').extract (a + b + L) s'.length = txt s2 := by rw [txt_extract, List.take_of_length_le (Nat.le_refl _), hs2]
      clear c3 c4 hs0 hs1 hD hC hs2
      by_cases hev : t % 2 = 0
      · rw [if_pos hev, if_pos hev, fin_join (by rfl), ← joinF_app] at hG
        have hb1 : ((t : Int) % 2 == 0) = true := by
          have h : (t : Int) % 2 = 0 := by omega
          rw [h]; rfl
        have HG := Lib.hid hG
        clear hG hev
        go_wp2_with fail
        refine HC1.out.mono ?_
        rintro r w1 ⟨rfl, rfl⟩
        go_wp2_with fail
        refine HC2.out.mono ?_
        rintro r w1 ⟨rfl, rfl⟩
        have z0 := hB.size
        have hB2 : Below w.heap.size w ((wr.alloc (.cells #[.int .u64 (t : Int), .string (txt C), .slice none 0 0] 49)).alloc (.cells #[.int .u64 (t : Int), .string (txt C), .slice none 0 0] 49)) := (hB.alloc z0 _).alloc (by simp only [World.size_alloc]; omega) _
        have hA2 : Below wr.heap.size wr ((wr.alloc (.cells #[.int .u64 (t : Int), .string (txt C), .slice none 0 0] 49)).alloc (.cells #[.int .u64 (t : Int), .string (txt C), .slice none 0 0] 49)) := ((Below.refl _ _).alloc (Nat.le_refl _) _).alloc (by simp only [World.size_alloc]; omega) _
        have hown2 := hown.below stays_R hA2
        have hblk := Blk.new (wr.alloc (.cells #[.int .u64 (t : Int), .string (txt C), .slice none 0 0] 49)) 49 #[.int .u64 (t : Int), .string (txt C), .slice none 0 0]
        rw [World.size_alloc] at hblk
        have HOWN := Lib.hid hown2
        have HB2 := Lib.hid hB2
        have HBLK := Lib.hid hblk
        have HT64 := Lib.hid t64
        clear hA2 hown2 hown hB hB2 hblk t64
        go_wp2_with (at_builtin; refine wpList_append_it stays_R one_R Try.underlying25 Try.infoI zeroI rfl (.tmp 101) (.tmp 103) rfl rfl w.heap.size _ p rfl HOWN.out (wr.heap.size + 1) rfl t C .nil (.string (txt C)) (.slice none 0 0) HBLK.out HT64.out rfl (FV.nil _ _) ?h1 ?h2 ?h3 ?_)
        case h1 => omega
        case h2 => omega
        case h3 => exact HB2.out.size
        intro v' w' hap
        have hb' := hap.below HOWN.out HB2.out.size
        have hown' := hap.1
        have hB' := HB2.out.trans hb'
        clear hap hb'
        go_wp2
        go_roundw
        case rel => exact ⟨m, s2, at' + (a + b + L), p.app (.cons t C .nil .nil), by omega, by omega, by omega, by rw [Fo.len_app]; simp only [Fo.len]; omega, by rw [hx3], by go_num, HG, hown', hB'⟩
        case measure => simp [txt_size]; omega
      · rw [if_neg hev, if_neg hev] at hG
        have hb1 : ((t : Int) % 2 == 0) = false := by
          have h : (t : Int) % 2 = 1 := by omega
          rw [h]; rfl
        obtain ⟨K, hK⟩ : ∃ K, K = gt m C (deep + 1) (at' + a + b) := ⟨_, rfl⟩
        rw [← hK] at hG
        have z0 := hB.size
        have hA1 : Below wr.heap.size wr (wr.alloc (.cells #[.int .u64 (t : Int), .string ⟨#[]⟩, .slice none 0 0] 49)) := (Below.refl _ _).alloc (Nat.le_refl _) _
        have hB1 : Below w.heap.size w (wr.alloc (.cells #[.int .u64 (t : Int), .string ⟨#[]⟩, .slice none 0 0] 49)) := hB.alloc z0 _
        have hown1 := hown.below stays_R hA1
        have hblk1 := Blk.new wr 49 #[.int .u64 (t : Int), .string ⟨#[]⟩, .slice none 0 0]
        have HI3 : Hid (Calls Try.prog 34 #[.string (txt C), .int .i64 ((deep : Int) + 1), .int .i64 ((at' : Int) + (a : Int) + (b : Int))] (wr.alloc (.cells #[.int .u64 (t : Int), .string ⟨#[]⟩, .slice none 0 0] 49)) (Got3 K (wr.alloc (.cells #[.int .u64 (t : Int), .string ⟨#[]⟩, .slice none 0 0] 49)))) := Lib.hid (by
          rw [hK]
          exact HI.out m (by omega) C (deep + 1) (at' + a + b) _ _ _ (by omega) (by omega) (by omega) (by omega) (by omega))
        have HT64 := Lib.hid t64
        clear hev hK hB t64
        go_wp2_with fail
        refine HC1.out.mono ?_
        rintro r w1 ⟨rfl, rfl⟩
        go_wp2_with fail
        refine HC2.out.mono ?_
        rintro r w1 ⟨rfl, rfl⟩
        go_wp2_with fail
        refine HI3.out.mono ?_
        rintro r w3 ⟨kv, rfl, hkv, hb3⟩
        obtain ⟨A3, c3, rfl⟩ := hkv.shape
        have hz3 := hb3.size
        simp only [World.size_alloc] at hz3
        have hB3 := hB1.trans (hb3.mono hB1.size)
        have hown3 := hown1.below stays_R hb3
        have hblk3 : Blk w3 wr.heap.size 49 #[.int .u64 (t : Int), .string ⟨#[]⟩, .slice none 0 0] := hblk1.below hb3 (by simp only [World.size_alloc]; omega)
        by_cases hk0 : K.2.1 = 0
        · have hk0b : (K.2.1 == 0) = true := by rw [hk0]; rfl
          have hk0c : (K.2.1 != 0) = false := by rw [hk0]; rfl
          rw [fin_join hk0, ← joinF_app] at hG
          have HG := Lib.hid hG
          have f2 : w3.frozen? ⟨wr.heap.size, 2, none⟩ = false := hblk3.frozen 2
          have q0 : w3.cell? ⟨wr.heap.size, 0, none⟩ = some (.int .u64 (t : Int)) := by rw [hblk3.cell]; rfl
          have q1 : w3.cell? ⟨wr.heap.size, 1, none⟩ = some (.string ⟨#[]⟩) := by rw [hblk3.cell]; rfl
          have q2 : w3.cell? ⟨wr.heap.size, 2, none⟩ = some (.slice none 0 0) := by rw [hblk3.cell]; rfl
          have hBW : Below wr.heap.size wr ((w3.setCell ⟨wr.heap.size, 2, none⟩ (.slice A3 K.1.len c3)).alloc (.cells #[.int .u64 (t : Int), .string ⟨#[]⟩, .slice A3 K.1.len c3] 49)) :=
            ((hA1.trans (hb3.mono (by simp only [World.size_alloc]; omega))).setCell (p := ⟨wr.heap.size, 2, none⟩) (Nat.le_refl _) _).alloc (by simp only [World.setCell, Array.size_modify]; omega) _
          have hown4 := hown.below stays_R hBW
          have hB4 := (hB3.setCell (p := ⟨wr.heap.size, 2, none⟩) z0 (.slice A3 K.1.len c3)).alloc (by simp only [World.setCell, Array.size_modify]; omega) (.cells #[.int .u64 (t : Int), .string ⟨#[]⟩, .slice A3 K.1.len c3] 49)
          have hlt4 := fun k hk => (hown.lt k hk).2
          have hkv4 : FV DataR ((w3.setCell ⟨wr.heap.size, 2, none⟩ (.slice A3 K.1.len c3)).alloc (.cells #[.int .u64 (t : Int), .string ⟨#[]⟩, .slice A3 K.1.len c3] 49)) (Its w.heap.size ((w3.setCell ⟨wr.heap.size, 2, none⟩ (.slice A3 K.1.len c3)).alloc (.cells #[.int .u64 (t : Int), .string ⟨#[]⟩, .slice A3 K.1.len c3] 49)) u9) (.slice A3 K.1.len c3) K.1 :=
            hkv.kept stays_R (fun g hg => (Below.heap_alloc _ _ g (by have := hg.2; simp only [World.setCell, Array.size_modify]; omega)).trans (Below.heap_setCell w3 ⟨wr.heap.size, 2, none⟩ _ g (by have := hg.1; simp only [World.size_alloc] at this; show g ≠ wr.heap.size; omega)))
              (fun g hg => ⟨by have := hg.1; simp only [World.size_alloc] at this; omega, by have := hg.2; simp only [World.size_alloc, World.setCell, Array.size_modify]; omega, fun h => by have := hlt4 g h.symm; have := hg.1; simp only [World.size_alloc] at this; omega⟩)
          have hblk4 := Blk.new (w3.setCell ⟨wr.heap.size, 2, none⟩ (.slice A3 K.1.len c3)) 49 #[.int .u64 (t : Int), .string ⟨#[]⟩, .slice A3 K.1.len c3]
          have hsz3 : (w3.setCell ⟨wr.heap.size, 2, none⟩ (.slice A3 K.1.len c3)).heap.size = w3.heap.size := by simp [World.setCell]
          rw [hsz3] at hblk4
          have HOWN := Lib.hid hown4
          have HB4 := Lib.hid hB4
          have HKV := Lib.hid hkv4
          have HBLK := Lib.hid hblk4
          clear hG hk0 hown1 hblk1 hB1 hb3 hBW hown4 hB4 hkv4 hblk4 hsz3 hown hA1 hown3 hkv hlt4 hB3 hblk3
          go_wp2_with (at_builtin; refine wpList_append_it stays_R one_R Try.underlying25 Try.infoI zeroI rfl (.tmp 101) (.tmp 103) rfl rfl w.heap.size _ p rfl HOWN.out w3.heap.size rfl t [] K.1 (.string ⟨#[]⟩) (.slice A3 K.1.len c3) HBLK.out HT64.out rfl HKV.out ?h1 ?h2 ?h3 ?_)
          case h1 => omega
          case h2 => omega
          case h3 => exact HB4.out.size
          intro v' w' hap
          have hb' := hap.below HOWN.out HB4.out.size
          have hown' := hap.1
          have hB' := HB4.out.trans hb'
          clear hap hb'
          go_wp2
          go_roundw
          case rel => exact ⟨m, s2, at' + (a + b + L), p.app (.cons t [] K.1 .nil), by omega, by omega, by omega, by rw [Fo.len_app]; simp only [Fo.len]; omega, by rw [hx3], by go_num, HG, hown', hB'⟩
          case measure => simp [txt_size]; omega
        · have hk0b : (K.2.1 == 0) = false := beq_eq_false_iff_ne.2 hk0
          have hk0c : (K.2.1 != 0) = true := by unfold bne; rw [hk0b]; rfl
          have HP : Hid (Got3 G w (.returned (.tuple #[.slice none 0 0, .int .i64 K.2.1, .int .i64 (K.2.2 : Int)])) w3) := Lib.hid (Got3.err (o := K.2.2) (by rw [hG]; unfold fin joinF; rw [if_pos hk0]; rw [if_neg hk0]) hB3)
          clear hG hk0 hown1 hblk1 hB1 hb3 hown3 hblk3 hkv
          go_wp2
          go_ret3
          exact HP.out

/-- What the document's Get answers for bytes. -/
def gotOf (s : List UInt8) : Fo × Int × Nat := if 8192 < s.length then (.nil, 14, 0) else gt s.length s 1 0

theorem rgetall_any (s : List UInt8) (w : World) (hs : s.length ≤ 100000) : Calls Try.prog 18 #[.string (txt s)] w (Got3 (gotOf s) w) := by
  have hsz := txt_size s
  by_cases h : 8192 < s.length
  · have hd : decide ((8192 : Int) < (s.length : Int)) = true := decide_eq_true (by omega)
    have HP : Hid (Got3 (gotOf s) w (.returned (.tuple #[.slice none 0 0, .int .i64 14, .int .i64 0])) w) := Lib.hid (Got3.err (o := 0) (by unfold gotOf; rw [if_pos h]) (Below.refl _ _))
    clear h
    go_enter Try.func18, Try.ntmps18
    go_wp2
    go_ret3
    exact HP.out
  · have hd : decide ((8192 : Int) < (s.length : Int)) = false := decide_eq_false (by omega)
    obtain ⟨G, hG⟩ : ∃ G, G = gotOf s := ⟨_, rfl⟩
    have HC : Hid (Calls Try.prog 34 #[.string (txt s), .int .i64 1, .int .i64 0] w (Got3 G w)) := Lib.hid (by
      rw [hG]
      unfold gotOf
      rw [if_neg h]
      exact rget3_any s.length s 1 0 w _ _ (Nat.le_refl _) (by omega) (by omega) rfl rfl)
    rw [← hG]
    clear h hG
    go_enter Try.func18, Try.ntmps18
    go_wp2_with fail
    refine HC.out.mono ?_
    rintro r w1 ⟨v, rfl, hv, hb⟩
    obtain ⟨A, c, rfl⟩ := hv.shape
    have HV := Lib.hid hv
    clear hv
    go_wp2
    go_ret3
    exact ⟨_, rfl, HV.out, hb⟩

end Go.Proofs.Ytdpaijechogmlaa
