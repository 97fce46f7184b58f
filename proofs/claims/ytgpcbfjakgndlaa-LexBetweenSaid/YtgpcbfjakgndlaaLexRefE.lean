/-
  What the document's All answers (package tollbarref05). No condition but those of each theorem.
-/
import Derived.Test.YtgpcbfjakgndlaaLexRunL
import Derived.Test.YtgpcbfjakgndlaaLexRefD
namespace Go.Proofs.Ytgpcbfjakgndlaa
open Go.RowKit
set_option linter.unusedSimpArgs false

theorem Try.infoT : (Try.prog.info? 49).map (fun i => (i.zero, i.size, i.bytes)) = some (some (.agg #[.int .i64 0, .string ⟨#[]⟩, .int .i64 0, .int .i64 0]), 4, 40) := by kernel_rfl
theorem zeroT : (Value.agg #[.int .i64 0, .string ⟨#[]⟩, .int .i64 0, .int .i64 0]).cells.size = 4 := by rfl
/-- What All hands back. -/
def RAllP (s : List UInt8) (w : World) (r : Ending) (w' : World) : Prop :=
  ∃ v, r = .returned (.tuple #[v, .int .i64 (allX s).2.1, .agg #[.int .i64 ((allX s).2.2.1 : Int), .int .i64 ((allX s).2.2.2 : Int)]]) ∧ OwnK 49 4 w' w.heap.size v (allX s).1.length ((allX s).1.flatMap tkC) ∧ Below w.heap.size w w'
theorem app_tok {w w' W : World} {N : Nat} {v v' : Value} {os : List Tok} {t : Tok} (hown : OwnK 49 4 w N v os.length (os.flatMap tkC)) (hb : Below N W w) (hN : N ≤ w.heap.size)
    (h : AppK 49 4 w N v (os.length + 1) (os.flatMap tkC ++ tkC t) v' w') : OwnK 49 4 w' N v' (os ++ [t]).length ((os ++ [t]).flatMap tkC) ∧ Below N W w' := by
  refine ⟨?_, hb.trans (h.below hown hN)⟩
  rw [List.flatMap_append, List.length_append]
  simpa using h.1
theorem own_ne {w : World} {N B : Nat} {v : Value} {n : Nat} {xs : List Value} (h : OwnK 49 4 w N v n xs) (hB : B < N) : v.ownBlock ≠ some B := fun e => by
  have := (h.lt B e).1
  omega
theorem Sgs.cell {w : World} {d off m c : Nat} {p : Ps} {l : List It} {i : Nat} {x : It × Ps} (h : Sgs w d (.slice (some ⟨d, off, none⟩) m c) p l) (hi : (sgs p l)[i]? = some x) : w.cell? ⟨d, off + i * 4, none⟩ = some (.string (txt x.1.1)) := by
  obtain ⟨_, _, off', e, _, c0, _⟩ := h.at hi
  injection e with e
  injection e with _ e _
  subst e
  exact c0
theorem flat_step {l : List It} {a m : Nat} {y : It} (ham : a ≤ m) (hy : l[m]? = some y) : ((l.drop a).take (m + 1 - a)).flatMap (·.1) = ((l.drop a).take (m - a)).flatMap (·.1) ++ y.1 := by
  rw [show m + 1 - a = (m - a) + 1 by omega, List.take_add_one, List.getElem?_drop, show a + (m - a) = m by omega, hy]
  simp
theorem part_len {p : Ps} {l : List It} {u : List UInt8} {n : Nat} (hok : ∀ x ∈ l, ItOk x) (h : partOf p l = .part u n) : u.length ≤ 4 := by
  unfold partOf at h
  split at h
  · cases h
  · rename_i x r
    have hx := (hok x List.mem_cons_self).2.1
    split at h
    · cases h
    · split at h
      · injection h with h _; rw [← h]; exact hx
      · split at h
        · cases h
        · rename_i y r'
          have hy := (hok y (by simp)).2.1
          repeat' split at h
          all_goals first
            | (cases h; done)
            | (injection h with h _; rw [← h]; first | exact hy | simp)
theorem resAll {tmps : Array Value} {W : World} {b : Nat} {v : Value} {e x y : Int} (h2 : tmps.getD 2 undef = v) (h3 : tmps.getD 3 undef = .int .i64 e) (h4 : tmps.getD 4 undef = .pointer (some ⟨b, 0, none⟩)) (q : Blk W b 26 #[.int .i64 x, .int .i64 y]) :
    (results Try.f10 tmps).run Try.prog W = .ok (.tuple #[v, .int .i64 e, .agg #[.int .i64 x, .int .i64 y]]) W := by
  have c0 := q.cell 0
  have c1 := q.cell 1
  have g2 : tmps[2]?.getD undef = v := by simpa using h2
  have g3 : tmps[3]?.getD undef = .int .i64 e := by simpa using h3
  have g4 : tmps[4]?.getD undef = .pointer (some ⟨b, 0, none⟩) := by simpa using h4
  simp [results, Try.f10, go_sem, g2, g3, g4, c0, c1]

set_option maxRecDepth 100000 in
set_option maxHeartbeats 8000000 in
theorem rall_any (s : List UInt8) (w : World) (hs : s.length ≤ 100000) : Calls Try.prog 10 #[.string (txt s)] w (RAllP s w) := by
  have hsz := txt_size s
  by_cases hbig : 8192 < s.length
  · have HX : Hid (allX s = ([], 14, (0, 0))) := Lib.hid (by unfold allX; rw [if_pos hbig])
    have i0 : (8192 : Int) < (s.length : Int) := by omega
    go_enter Try.func10, Try.ntmps10
    go_wp2
    refine bodyPost_ret (resAll (b := w.heap.size) rfl rfl rfl (Blk.new w 26 #[.int .i64 0, .int .i64 0])) rfl ?_
    exact ⟨.slice none 0 0, by rw [HX.out]; rfl, by rw [HX.out]; exact OwnK.nil _ _ _ _, (Below.refl _ w).alloc (Nat.le_refl _) _⟩
  have HA : Hid (allX s = lx (1, 1) (cut s)) := Lib.hid (allX_ok (by omega))
  have i0 : ¬ (8192 : Int) < (s.length : Int) := by omega
  obtain ⟨l, hcut⟩ : ∃ l, l = cut s := ⟨_, rfl⟩
  have hll : l.length ≤ 100000 := by rw [hcut]; exact Nat.le_trans (cut_len s) hs
  have hok : ∀ x ∈ l, ItOk x := by rw [hcut]; exact cut_item s
  have HSG := Lib.hid (rsigns_any s (w.alloc (.cells #[.int .i64 0, .int .i64 0] 26)) hs)
  unfold SgnP at HSG
  rw [← hcut] at HA HSG
  clear hcut hbig
  go_enter Try.func10, Try.ntmps10
  go_wp2_with fail
  refine HSG.out.mono ?_
  rintro r W ⟨v, rfl, hown0, hbel0⟩
  obtain ⟨d, hrow, -⟩ := hown0.row
  obtain ⟨A, c, rfl⟩ := hrow.shape
  have hv : Sgs W d (.slice A (l.length + 1) c) (1, 1) l := hrow
  obtain ⟨B, hB⟩ : ∃ B, B = w.heap.size := ⟨_, rfl⟩
  have hbx : Blk W B 26 #[.int .i64 0, .int .i64 0] := by rw [hB]; exact (Blk.new w 26 _).below hbel0 (by simp)
  have hBw : Below B w W := by
    rw [hB]
    exact ((Below.refl _ w).alloc (Nat.le_refl _) _).trans (hbel0.mono (by simp))
  have hWB : B < W.heap.size := hbx.lt
  obtain ⟨N, hN⟩ : ∃ N, N = W.heap.size := ⟨_, rfl⟩
  rw [← hN] at hWB
  rw [← hB]
  have HN := Lib.hid hN
  have HB := Lib.hid hB
  clear hown0 hrow hbel0 hN hB
  go_wp2
  go_loopw [6, 7] (fun y i wo => ∃ (k : Nat) (os : List Tok), k ≤ l.length ∧ i = .int .i64 (k : Int) ∧ os.length ≤ k ∧ OwnK 49 4 wo N y os.length (os.flatMap tkC) ∧ Hid (RunL l k os) ∧ Below N W wo) (fun _ i _ => l.length - (intOf i).toNat)
  case atStart => exact ⟨0, [], by omega, rfl, by simp, OwnK.nil _ _ _ _, Lib.hid (run0 l), HN.out ▸ Below.refl _ _⟩
  case round =>
    obtain ⟨wo, hwo⟩ : ∃ wo, wo = wr := ⟨_, rfl⟩
    subst hwo
    obtain ⟨k, os, hk, rfl, hos, hown, HRUN, hbw⟩ := hrel
    obtain ⟨x, hat, hx1, hx2⟩ := sgs_get (1, 1) l hk
    have hvr : Sgs wo d (.slice A (l.length + 1) c) (1, 1) l := RowK.below hv (HN.out ▸ hbw)
    have hbr : Blk wo B 26 #[.int .i64 0, .int .i64 0] := hbx.below hbw hWB
    have hNr : N ≤ wo.heap.size := HN.out ▸ hbw.size
    obtain ⟨_, him, off, rfl, hdw, c0, c1, c2, c3⟩ := hvr.at hat
    obtain ⟨p, hp⟩ : ∃ p, p = advs (1, 1) (l.take k) := ⟨_, rfl⟩
    rw [← hp] at c2 c3
    have HP := Lib.hid hp
    clear hp
    obtain ⟨p1, p2⟩ := p
    simp only at c0 c1 c2 c3
    have i1 : (0 : Int) ≤ (k : Int) := by omega
    have i2 : (k : Int) < (l.length : Int) + 1 := by omega
    have ht : (txt x.1).toList = x.1 := txt_toList x.1
    by_cases h1 : k < l.length
    · have hg := hx1 h1
      have hio := hok x (List.mem_of_getElem? hg)
      have hne := hio.1
      have hE' : x.1.isEmpty = false := by cases h : x.1 with | nil => exact absurd h hne | cons _ _ => rfl
      have HO : Hid (∀ o, OwnK 49 4 (wo.alloc o) N u6 os.length (os.flatMap tkC) ∧ Below N W (wo.alloc o) ∧ N ≤ (wo.alloc o).heap.size ∧ Blk (wo.alloc o) B 26 #[.int .i64 0, .int .i64 0]) := Lib.hid (fun o =>
        ⟨hown.below ((Below.refl _ wo).alloc (Nat.le_refl _) o), hbw.alloc hNr o, by simp; omega, hbr.alloc o⟩)
      have HG := Lib.hid hg
      have HIO := Lib.hid hio
      have HV : Hid (∀ V, Below wo.heap.size wo V → Sgs V d (.slice (some ⟨d, off, none⟩) (l.length + 1) c) (1, 1) l) := Lib.hid (fun V hb => RowK.below hvr hb)
      clear hx1 hx2 hat hvr hg hio hown
      by_cases hbl : blankB x.1 = true
      · have HR := Lib.hid (run_blank HG.out hbl HRUN.out)
        have h4 : x.1 = [32] ∨ x.1 = [9] ∨ x.1 = [13] ∨ x.1 = [10] := by simpa [blankB, or_assoc] using hbl
        clear hbl hne
        rcases h4 with h | h | h | h
        all_goals rw [h] at c0 ht hE'
        all_goals clear h
        all_goals go_wp2
        all_goals go_roundw
        all_goals first
          | exact ⟨k + 1, os, by omega, by go_num, by omega, (HO.out _).1, HR, (HO.out _).2.1⟩
          | (simp [intOf]; omega)
      have hbl2 : blankB x.1 = false := by simpa using hbl
      have h4 : x.1 ≠ [32] ∧ x.1 ≠ [9] ∧ x.1 ≠ [13] ∧ x.1 ≠ [10] := by simpa [blankB, and_assoc] using hbl2
      have b32 : (x.1 == [32]) = false := beq_eq_false_iff_ne.2 h4.1
      have b9 : (x.1 == [9]) = false := beq_eq_false_iff_ne.2 h4.2.1
      have b13 : (x.1 == [13]) = false := beq_eq_false_iff_ne.2 h4.2.2.1
      have b10 : (x.1 == [10]) = false := beq_eq_false_iff_ne.2 h4.2.2.2
      have HBL := Lib.hid hbl2
      clear hbl hbl2 h4
      by_cases h35 : x.1 = [35]
      · have HO2 := HO.out (.cells #[.string (txt [35]), .bool x.2, .int .i64 (p1 : Int), .int .i64 (p2 : Int)] 48)
        have hv8 : Sgs (wo.alloc (.cells #[.string (txt [35]), .bool x.2, .int .i64 (p1 : Int), .int .i64 (p2 : Int)] 48)) d (.slice (some ⟨d, off, none⟩) (l.length + 1) c) (1, 1) l := HV.out _ ((Below.refl _ _).alloc (Nat.le_refl _) _)
        rw [h35] at c0 ht hE' b32 b9 b13 b10
        replace h35 := Lib.hid h35
        have i3 : (k : Int) + 1 ≤ (l.length : Int) := by omega
        clear hne
        go_wp2
        go_loop [7] (fun i => ∃ m : Nat, k + 1 ≤ m ∧ m ≤ l.length ∧ i = .int .i64 (m : Int) ∧ Hid (∀ j y, k + 1 ≤ j → j < m → l[j]? = some y → y.1 ≠ [10])) (fun i => l.length - (intOf i).toNat)
        case atStart => exact ⟨k + 1, by omega, by omega, by go_num, Lib.hid (fun j y g1 g2 _ => by omega)⟩
        case round =>
          obtain ⟨m, hkm, hml, rfl, HM⟩ := hrel
          obtain ⟨y, hyt, hy1, hy2⟩ := sgs_get (1, 1) l hml
          have cy := hv8.cell hyt
          have j1 : (0 : Int) ≤ (m : Int) := by omega
          have j2 : (m : Int) < (l.length : Int) + 1 := by omega
          have ty : (txt y.1).toList = y.1 := txt_toList y.1
          simp only at cy
          by_cases hm2 : m < l.length
          · have hg := hy1 hm2
            have hyne := (hok y (List.mem_of_getElem? hg)).1
            have hyE : y.1.isEmpty = false := by cases h : y.1 with | nil => exact absurd h hyne | cons _ _ => rfl
            by_cases hy10 : y.1 = [10]
            · have HR := Lib.hid (run_note HG.out h35.out (by omega) hml HM.out (fun y' g => by rw [hg] at g; injection g with g; rw [← g]; exact hy10) HRUN.out)
              rw [hy10] at cy ty hyE
              clear hy1 hy2 hyt hg hyne hy10
              go_wp2
              go_roundw
              case rel => exact ⟨m, os, by omega, by go_num, by omega, HO2.1, HR, HO2.2.1⟩
              case measure => simp [intOf]; omega
            · have by10 : (y.1 == [10]) = false := beq_eq_false_iff_ne.2 hy10
              have HM2 : Hid (∀ j y, k + 1 ≤ j → j < m + 1 → l[j]? = some y → y.1 ≠ [10]) := Lib.hid (fun j y' g1 g2 g3 => by
                rcases Nat.lt_or_ge j m with g | g
                · exact HM.out j y' g1 g g3
                · obtain rfl : j = m := by omega
                  rw [hg] at g3; injection g3 with g3; rw [← g3]; exact hy10)
              clear hy1 hy2 hyt hg hyne hy10 HM
              go_wp2
              go_round
              case rel => exact ⟨m + 1, by omega, by omega, by go_num, HM2⟩
              case measure => simp [intOf]; omega
          · obtain rfl : m = l.length := by omega
            have hyn := hy2 rfl
            subst hyn
            have HR := Lib.hid (run_note HG.out h35.out (by omega) hml HM.out (fun y' g => by rw [List.getElem?_eq_none (Nat.le_refl _)] at g; cases g) HRUN.out)
            clear hy1 hy2 hyt hm2
            go_wp2
            go_roundw
            case rel => exact ⟨l.length, os, by omega, by go_num, by omega, HO2.1, HR, HO2.2.1⟩
            case measure => simp [intOf]; omega
      have b35 : (x.1 == [35]) = false := beq_eq_false_iff_ne.2 h35
      by_cases h123 : x.1 = [123]
      · have h := h123
        have HR := Lib.hid (run_sign (n := 3) HG.out (.inl ⟨h, rfl⟩) HRUN.out)
        rw [← HP.out] at HR
        rw [h] at c0 ht hE' b32 b9 b13 b10 b35
        have HO2 := (HO.out (.cells #[.string (txt [123]), .bool x.2, .int .i64 (p1 : Int), .int .i64 (p2 : Int)] 48))
        obtain ⟨o1, o2, o3, o4⟩ := HO2
        have hblk := Blk.new (wo.alloc (.cells #[.string (txt [123]), .bool x.2, .int .i64 (p1 : Int), .int .i64 (p2 : Int)] 48)) 49 #[.int .i64 3, .string (txt []), .int .i64 (p1 : Int), .int .i64 (p2 : Int)]
        rw [show (wo.alloc (.cells #[.string (txt [123]), .bool x.2, .int .i64 (p1 : Int), .int .i64 (p2 : Int)] 48)).heap.size = wo.heap.size + 1 by simp] at hblk
        have hown3 := o1.below ((Below.refl _ _).alloc (Nat.le_refl _) (.cells #[.int .i64 3, .string (txt []), .int .i64 (p1 : Int), .int .i64 (p2 : Int)] 49))
        have hb3 := o2.alloc o3 (.cells #[.int .i64 3, .string (txt []), .int .i64 (p1 : Int), .int .i64 (p2 : Int)] 49)
        have hN3 : N ≤ ((wo.alloc (.cells #[.string (txt [123]), .bool x.2, .int .i64 (p1 : Int), .int .i64 (p2 : Int)] 48)).alloc (.cells #[.int .i64 3, .string (txt []), .int .i64 (p1 : Int), .int .i64 (p2 : Int)] 49)).heap.size := by simp; omega
        have hone : ∀ u ∈ [Value.int .i64 3, .string (txt []), .int .i64 (p1 : Int), .int .i64 (p2 : Int)], u.oneCell' = true := tkC_one ⟨3, [], (p1, p2)⟩
        clear h h123 o1 o2 o3 o4 hne
        go_wp2_with (at_builtin; refine wpList_append_k Try.underlying29 Try.infoT zeroT (by decide) rfl (.tmp 77) (.tmp 81) rfl rfl N _ os.length _ rfl hown3 (wo.heap.size + 1) rfl [.int .i64 3, .string (txt []), .int .i64 (p1 : Int), .int .i64 (p2 : Int)] hblk rfl hone ?h1 ?h2 hN3 ?_)
        case h1 => omega
        case h2 => omega
        intro v' w' hap
        obtain ⟨hq1, hq2⟩ := app_tok (t := ⟨3, [], (p1, p2)⟩) hown3 hb3 hN3 hap
        clear hap hown3 hb3 hN3 hblk hone
        go_wp2
        go_roundw
        case rel => exact ⟨k + 1, _, by omega, by go_num, by simp; omega, hq1, HR, hq2⟩
        case measure => simp [intOf]; omega
      have b123 : (x.1 == [123]) = false := beq_eq_false_iff_ne.2 h123
      by_cases h125 : x.1 = [125]
      · have h := h125
        have HR := Lib.hid (run_sign (n := 4) HG.out (.inr (.inl ⟨h, rfl⟩)) HRUN.out)
        rw [← HP.out] at HR
        rw [h] at c0 ht hE' b32 b9 b13 b10 b35 b123
        have HO2 := (HO.out (.cells #[.string (txt [125]), .bool x.2, .int .i64 (p1 : Int), .int .i64 (p2 : Int)] 48))
        obtain ⟨o1, o2, o3, o4⟩ := HO2
        have hblk := Blk.new (wo.alloc (.cells #[.string (txt [125]), .bool x.2, .int .i64 (p1 : Int), .int .i64 (p2 : Int)] 48)) 49 #[.int .i64 4, .string (txt []), .int .i64 (p1 : Int), .int .i64 (p2 : Int)]
        rw [show (wo.alloc (.cells #[.string (txt [125]), .bool x.2, .int .i64 (p1 : Int), .int .i64 (p2 : Int)] 48)).heap.size = wo.heap.size + 1 by simp] at hblk
        have hown3 := o1.below ((Below.refl _ _).alloc (Nat.le_refl _) (.cells #[.int .i64 4, .string (txt []), .int .i64 (p1 : Int), .int .i64 (p2 : Int)] 49))
        have hb3 := o2.alloc o3 (.cells #[.int .i64 4, .string (txt []), .int .i64 (p1 : Int), .int .i64 (p2 : Int)] 49)
        have hN3 : N ≤ ((wo.alloc (.cells #[.string (txt [125]), .bool x.2, .int .i64 (p1 : Int), .int .i64 (p2 : Int)] 48)).alloc (.cells #[.int .i64 4, .string (txt []), .int .i64 (p1 : Int), .int .i64 (p2 : Int)] 49)).heap.size := by simp; omega
        have hone : ∀ u ∈ [Value.int .i64 4, .string (txt []), .int .i64 (p1 : Int), .int .i64 (p2 : Int)], u.oneCell' = true := tkC_one ⟨4, [], (p1, p2)⟩
        clear h h125 o1 o2 o3 o4 hne
        go_wp2_with (at_builtin; refine wpList_append_k Try.underlying29 Try.infoT zeroT (by decide) rfl (.tmp 87) (.tmp 91) rfl rfl N _ os.length _ rfl hown3 (wo.heap.size + 1) rfl [.int .i64 4, .string (txt []), .int .i64 (p1 : Int), .int .i64 (p2 : Int)] hblk rfl hone ?h1 ?h2 hN3 ?_)
        case h1 => omega
        case h2 => omega
        intro v' w' hap
        obtain ⟨hq1, hq2⟩ := app_tok (t := ⟨4, [], (p1, p2)⟩) hown3 hb3 hN3 hap
        clear hap hown3 hb3 hN3 hblk hone
        go_wp2
        go_roundw
        case rel => exact ⟨k + 1, _, by omega, by go_num, by simp; omega, hq1, HR, hq2⟩
        case measure => simp [intOf]; omega
      have b125 : (x.1 == [125]) = false := beq_eq_false_iff_ne.2 h125
      by_cases h59 : x.1 = [59]
      · have h := h59
        have HR := Lib.hid (run_sign (n := 5) HG.out (.inr (.inr ⟨h, rfl⟩)) HRUN.out)
        rw [← HP.out] at HR
        rw [h] at c0 ht hE' b32 b9 b13 b10 b35 b123 b125
        have HO2 := (HO.out (.cells #[.string (txt [59]), .bool x.2, .int .i64 (p1 : Int), .int .i64 (p2 : Int)] 48))
        obtain ⟨o1, o2, o3, o4⟩ := HO2
        have hblk := Blk.new (wo.alloc (.cells #[.string (txt [59]), .bool x.2, .int .i64 (p1 : Int), .int .i64 (p2 : Int)] 48)) 49 #[.int .i64 5, .string (txt []), .int .i64 (p1 : Int), .int .i64 (p2 : Int)]
        rw [show (wo.alloc (.cells #[.string (txt [59]), .bool x.2, .int .i64 (p1 : Int), .int .i64 (p2 : Int)] 48)).heap.size = wo.heap.size + 1 by simp] at hblk
        have hown3 := o1.below ((Below.refl _ _).alloc (Nat.le_refl _) (.cells #[.int .i64 5, .string (txt []), .int .i64 (p1 : Int), .int .i64 (p2 : Int)] 49))
        have hb3 := o2.alloc o3 (.cells #[.int .i64 5, .string (txt []), .int .i64 (p1 : Int), .int .i64 (p2 : Int)] 49)
        have hN3 : N ≤ ((wo.alloc (.cells #[.string (txt [59]), .bool x.2, .int .i64 (p1 : Int), .int .i64 (p2 : Int)] 48)).alloc (.cells #[.int .i64 5, .string (txt []), .int .i64 (p1 : Int), .int .i64 (p2 : Int)] 49)).heap.size := by simp; omega
        have hone : ∀ u ∈ [Value.int .i64 5, .string (txt []), .int .i64 (p1 : Int), .int .i64 (p2 : Int)], u.oneCell' = true := tkC_one ⟨5, [], (p1, p2)⟩
        clear h h59 o1 o2 o3 o4 hne
        go_wp2_with (at_builtin; refine wpList_append_k Try.underlying29 Try.infoT zeroT (by decide) rfl (.tmp 97) (.tmp 101) rfl rfl N _ os.length _ rfl hown3 (wo.heap.size + 1) rfl [.int .i64 5, .string (txt []), .int .i64 (p1 : Int), .int .i64 (p2 : Int)] hblk rfl hone ?h1 ?h2 hN3 ?_)
        case h1 => omega
        case h2 => omega
        intro v' w' hap
        obtain ⟨hq1, hq2⟩ := app_tok (t := ⟨5, [], (p1, p2)⟩) hown3 hb3 hN3 hap
        clear hap hown3 hb3 hN3 hblk hone
        go_wp2
        go_roundw
        case rel => exact ⟨k + 1, _, by omega, by go_num, by simp; omega, hq1, HR, hq2⟩
        case measure => simp [intOf]; omega
      have b59 : (x.1 == [59]) = false := beq_eq_false_iff_ne.2 h59
      by_cases h34 : x.1 = [34]
      · obtain ⟨o1, o2, o3, o4⟩ := HO.out (.cells #[.string (txt [34]), .bool x.2, .int .i64 (p1 : Int), .int .i64 (p2 : Int)] 48)
        rw [h34] at c0 ht hE' b32 b9 b13 b10 b35 b123 b125 b59
        replace h34 := Lib.hid h34
        have hs8 : (wo.alloc (.cells #[.string (txt [34]), .bool x.2, .int .i64 (p1 : Int), .int .i64 (p2 : Int)] 48)).heap.size = wo.heap.size + 1 := by simp
        have hb0 := Blk.new (wo.alloc (.cells #[.string (txt [34]), .bool x.2, .int .i64 (p1 : Int), .int .i64 (p2 : Int)] 48)) 49 #[.int .i64 2, .string (txt []), .int .i64 (p1 : Int), .int .i64 (p2 : Int)]
        rw [hs8] at hb0
        have hbe0 : Below (wo.heap.size + 1) (wo.alloc (.cells #[.string (txt [34]), .bool x.2, .int .i64 (p1 : Int), .int .i64 (p2 : Int)] 48)) ((wo.alloc (.cells #[.string (txt [34]), .bool x.2, .int .i64 (p1 : Int), .int .i64 (p2 : Int)] 48)).alloc (.cells #[.int .i64 2, .string (txt []), .int .i64 (p1 : Int), .int .i64 (p2 : Int)] 49)) := (Below.refl _ _).alloc (by rw [hs8]; exact Nat.le_refl _) _
        have HS8 := Lib.hid hs8
        have i3 : (k : Int) + 1 ≤ (l.length : Int) := by omega
        clear hs8 h35 h123 h125 h59 hne
        go_wp2
        go_loopw [7] (fun i wr => ∃ (m : Nat) (t : List UInt8), k + 1 ≤ m ∧ m ≤ l.length ∧ i = .int .i64 (m : Int) ∧ t.length ≤ 4 * m ∧ Hid (StrL l (k + 1) m t) ∧ Blk wr (wo.heap.size + 1) 49 #[.int .i64 2, .string (txt t), .int .i64 (p1 : Int), .int .i64 (p2 : Int)] ∧ Below (wo.heap.size + 1) (wo.alloc (.cells #[.string (txt [34]), .bool x.2, .int .i64 (p1 : Int), .int .i64 (p2 : Int)] 48)) wr) (fun i _ => l.length - (intOf i).toNat)
        case atStart => exact ⟨k + 1, [], by omega, by omega, by go_num, by simp, Lib.hid (str0 l (k + 1)), hb0, hbe0⟩
        case round =>
          obtain ⟨m, t, hkm, hml, rfl, htl, HS, hb, hbel⟩ := hrel
          obtain ⟨y, hyt, hy1, hy2⟩ := sgs_get (1, 1) l hml
          have hwr : Below wo.heap.size wo wr := ((Below.refl _ wo).alloc (Nat.le_refl _) _).trans (hbel.mono (Nat.le_succ _))
          have hv2 := HV.out _ hwr
          have cy := hv2.cell hyt
          simp only at cy
          have j1 : (0 : Int) ≤ (m : Int) := by omega
          have j2 : (m : Int) < (l.length : Int) + 1 := by omega
          have ty : (txt y.1).toList = y.1 := txt_toList y.1
          have sT := txt_size t
          have hs2 : wo.heap.size + 1 < wr.heap.size := hb.lt
          have hN2 : N ≤ wo.heap.size + 1 := by omega
          by_cases hy34 : y.1 = [34]
          · have hm2 : m < l.length := by
              rcases Nat.lt_or_ge m l.length with h | h
              · exact h
              · rw [hy2 (by omega)] at hy34; cases hy34
            have HR := Lib.hid (run_str HG.out h34.out (hy1 hm2) hy34 HS.out HRUN.out)
            rw [← HP.out] at HR
            rw [hy34] at cy ty
            have q0 : wr.cell? ⟨wo.heap.size + 1, 0, none⟩ = some (.int .i64 2) := hb.cell 0
            have q1 : wr.cell? ⟨wo.heap.size + 1, 1, none⟩ = some (.string (txt t)) := hb.cell 1
            have q2 : wr.cell? ⟨wo.heap.size + 1, 2, none⟩ = some (.int .i64 (p1 : Int)) := hb.cell 2
            have q3 : wr.cell? ⟨wo.heap.size + 1, 3, none⟩ = some (.int .i64 (p2 : Int)) := hb.cell 3
            have hblk := Blk.new wr 49 #[.int .i64 2, .string (txt t), .int .i64 (p1 : Int), .int .i64 (p2 : Int)]
            have hown3 := (o1.below (by rw [HS8.out]; exact hbel)).below ((Below.refl _ wr).alloc (Nat.le_refl _) (.cells #[.int .i64 2, .string (txt t), .int .i64 (p1 : Int), .int .i64 (p2 : Int)] 49))
            have hb3 := (o2.trans (hbel.mono hN2)).alloc (by omega) (.cells #[.int .i64 2, .string (txt t), .int .i64 (p1 : Int), .int .i64 (p2 : Int)] 49)
            have hN3 : N ≤ (wr.alloc (.cells #[.int .i64 2, .string (txt t), .int .i64 (p1 : Int), .int .i64 (p2 : Int)] 49)).heap.size := by simp; omega
            have hone : ∀ u ∈ [Value.int .i64 2, .string (txt t), .int .i64 (p1 : Int), .int .i64 (p2 : Int)], u.oneCell' = true := tkC_one ⟨2, t, (p1, p2)⟩
            clear hy1 hy2 hyt HS hb hbel hwr hv2 hb0 hbe0 o1 o2 o3 o4 hy34
            go_wp2_with (at_builtin; refine wpList_append_k Try.underlying29 Try.infoT zeroT (by decide) rfl (.tmp 136) (.tmp 138) rfl rfl N _ os.length _ rfl hown3 wr.heap.size rfl [.int .i64 2, .string (txt t), .int .i64 (p1 : Int), .int .i64 (p2 : Int)] hblk rfl hone ?h1 ?h2 hN3 ?_)
            case h1 => omega
            case h2 => omega
            intro v' w' hap
            obtain ⟨hq1, hq2⟩ := app_tok (t := ⟨2, t, (p1, p2)⟩) hown3 hb3 hN3 hap
            clear hap hown3 hb3 hN3 hblk hone q0 q1 q2 q3
            go_wp2
            go_roundw
            case rel => exact ⟨m + 1, _, by omega, by go_num, by simp; omega, hq1, HR, hq2⟩
            case measure => simp [intOf]; omega
          · have by34 : (y.1 == [34]) = false := beq_eq_false_iff_ne.2 hy34
            have HPC := Lib.hid (rpart_any l hok m hml hll wr d _ hv2)
            unfold PartP at HPC
            cases hpt : partOf (advs (1, 1) (l.take m)) (l.drop m) with
            | bad q =>
              have HE := Lib.hid (run_strErr HG.out h34.out (str_err hml (fun y' g => by
                have hm2 : m < l.length := (List.getElem?_eq_some_iff.1 g).1
                rw [hy1 hm2] at g; injection g with g; rw [← g]; exact hy34) hpt HS.out) HRUN.out)
              rw [hpt] at HPC
              obtain ⟨q1, q2⟩ := q
              have o5 := o4.below hbel (show B < wo.heap.size + 1 by omega)
              clear hy1 hy2 hyt HS hb hwr hv2 hb0 hbe0 o1 o3 o4 hy34
              go_wp2_with fail
              refine HPC.out.mono ?_
              rintro r w3 ⟨rfl, hb3⟩
              have o6 : Blk (w3.alloc (.cells #[.int .i64 (q1 : Int), .int .i64 (q2 : Int)] 26)) B 26 #[.int .i64 0, .int .i64 0] := (o5.below hb3 o5.lt).alloc _
              have k0 : (w3.alloc (.cells #[.int .i64 (q1 : Int), .int .i64 (q2 : Int)] 26)).cell? ⟨B, 0, none⟩ = some (.int .i64 0) := o6.cell 0
              have k1 : (w3.alloc (.cells #[.int .i64 (q1 : Int), .int .i64 (q2 : Int)] 26)).cell? ⟨B, 1, none⟩ = some (.int .i64 0) := o6.cell 1
              have f0 := o6.frozen 0
              have f1 := o6.frozen 1
              have HF : Hid (∀ V, V = (((w3.alloc (.cells #[.int .i64 (q1 : Int), .int .i64 (q2 : Int)] 26)).drew.setCell ⟨B, 0, none⟩ (.int .i64 (q1 : Int))).setCell ⟨B, 1, none⟩ (.int .i64 (q2 : Int))) → Blk V B 26 #[.int .i64 (q1 : Int), .int .i64 (q2 : Int)] ∧ RAllP s w (.returned (.tuple #[.slice none 0 0, .int .i64 20, .agg #[.int .i64 (q1 : Int), .int .i64 (q2 : Int)]])) V) := Lib.hid (by
                rintro V rfl
                have o7 : Blk (w3.alloc (.cells #[.int .i64 (q1 : Int), .int .i64 (q2 : Int)] 26)).drew B 26 #[.int .i64 0, .int .i64 0] := o6
                refine ⟨(o7.set_ 0 (.int .i64 (q1 : Int))).set_ 1 (.int .i64 (q2 : Int)), .slice none 0 0, ?_, ?_, ?_⟩
                · rw [HA.out, HE.out]
                · rw [HA.out, HE.out]; exact OwnK.nil _ _ _ _
                · rw [← HB.out]
                  have hh : Below N W w3 := (o2.trans (hbel.mono hN2)).trans (hb3.mono (by omega))
                  have h3 : B ≤ w3.heap.size := by have := hb3.size; omega
                  exact (((hBw.trans (hh.mono (Nat.le_of_lt hWB))).alloc h3 _).drew.setCell (Nat.le_refl _) _).setCell (Nat.le_refl _) _)
              clear o2 o5 o6 hbel
              simp only [partR]
              go_wp2_with fail
              go_region
              all_goals go_wp2
              all_goals obtain ⟨z1, z2⟩ := HF.out _ rfl
              all_goals exact bodyPost_ret (resAll (b := B) rfl rfl rfl z1) rfl z2
            | part u n =>
              have hm2 : m < l.length := by
                rcases Nat.lt_or_ge m l.length with h | h
                · exact h
                · rw [List.drop_eq_nil_of_le (by omega)] at hpt; cases hpt
              obtain ⟨hn1, hmn, hst⟩ := str_go (hy1 hm2) hy34 hpt HS.out
              have HST := Lib.hid hst
              have hul := part_len (fun z hz => hok z (List.mem_of_mem_drop hz)) hpt
              have sU := txt_size u
              rw [hpt] at HPC
              have hn0 : ((n : Int) == 0) = false := beq_eq_false_iff_ne.2 (by omega)
              obtain ⟨q, hq⟩ : ∃ q, q = advs (1, 1) (l.take m) := ⟨_, rfl⟩
              rw [← hq] at HPC
              obtain ⟨q1, q2⟩ := q
              have htl2 : (t ++ u).length ≤ 4 * (m + n) := by rw [List.length_append]; omega
              clear hy1 hy2 hyt HS hwr hv2 hb0 hbe0 o1 o2 o3 o4 hy34 hst hpt hq
              go_wp2_with fail
              refine HPC.out.mono ?_
              rintro r w3 ⟨rfl, hb3⟩
              have o6 := (hb.below hb3 hb.lt).alloc (.cells #[.int .i64 (q1 : Int), .int .i64 (q2 : Int)] 26)
              have k1 : (w3.alloc (.cells #[.int .i64 (q1 : Int), .int .i64 (q2 : Int)] 26)).cell? ⟨wo.heap.size + 1, 1, none⟩ = some (.string (txt t)) := o6.cell 1
              have f1 := o6.frozen 1
              have HZ : Hid (∀ V, V = (w3.alloc (.cells #[.int .i64 (q1 : Int), .int .i64 (q2 : Int)] 26)).setCell ⟨wo.heap.size + 1, 1, none⟩ (.string (txt t ++ txt u)) → Blk V (wo.heap.size + 1) 49 #[.int .i64 2, .string (txt (t ++ u)), .int .i64 (p1 : Int), .int .i64 (p2 : Int)] ∧ Below (wo.heap.size + 1) (wo.alloc (.cells #[.string (txt [34]), .bool x.2, .int .i64 (p1 : Int), .int .i64 (p2 : Int)] 48)) V) := Lib.hid (by
                rintro V rfl
                have h3 : wo.heap.size + 1 ≤ w3.heap.size := by have := hb3.size; omega
                refine ⟨?_, ((hbel.trans (hb3.mono (Nat.le_of_lt hs2))).alloc h3 _).setCell (Nat.le_refl _) _⟩
                rw [← txt_cat]
                exact o6.set_ 1 _)
              clear o6 hb hbel hb3
              simp only [partR]
              go_wp2
              go_roundw
              case rel =>
                obtain ⟨z1, z2⟩ := HZ.out _ rfl
                exact ⟨m + n, t ++ u, by omega, by omega, by go_num, htl2, HST, z1, z2⟩
              case measure => simp [intOf]; omega
      have b34 : (x.1 == [34]) = false := beq_eq_false_iff_ne.2 h34
      have HLT := fun W => Lib.hid (rletter_any x.1 W (by have := HIO.out.2.1; omega))
      cases hlt : letterB x.1 with
      | true =>
        rw [hlt] at HLT
        obtain ⟨o1, o2, o3, o4⟩ := HO.out (.cells #[.string (txt x.1), .bool x.2, .int .i64 (p1 : Int), .int .i64 (p2 : Int)] 48)
        have hs8 : (wo.alloc (.cells #[.string (txt x.1), .bool x.2, .int .i64 (p1 : Int), .int .i64 (p2 : Int)] 48)).heap.size = wo.heap.size + 1 := by simp
        have hxl : x.1.length ≤ 4 := HIO.out.2.1
        have hb0 := Blk.new (wo.alloc (.cells #[.string (txt x.1), .bool x.2, .int .i64 (p1 : Int), .int .i64 (p2 : Int)] 48)) 49 #[.int .i64 1, .string (txt x.1), .int .i64 (p1 : Int), .int .i64 (p2 : Int)]
        rw [hs8] at hb0
        have hbe0 : Below (wo.heap.size + 1) (wo.alloc (.cells #[.string (txt x.1), .bool x.2, .int .i64 (p1 : Int), .int .i64 (p2 : Int)] 48)) ((wo.alloc (.cells #[.string (txt x.1), .bool x.2, .int .i64 (p1 : Int), .int .i64 (p2 : Int)] 48)).alloc (.cells #[.int .i64 1, .string (txt x.1), .int .i64 (p1 : Int), .int .i64 (p2 : Int)] 49)) := (Below.refl _ _).alloc (by rw [hs8]; exact Nat.le_refl _) _
        have HS8 := Lib.hid hs8
        have i3 : (k : Int) + 1 ≤ (l.length : Int) := by omega
        clear hs8 h35 h123 h125 h59 h34 hne
        go_wp2_with fail
        refine (HLT _).out.mono ?_
        rintro r w' ⟨rfl, rfl⟩
        go_wp2
        go_loopw [7] (fun i wr => ∃ (m : Nat) (t : List UInt8), k + 1 ≤ m ∧ m ≤ l.length ∧ i = .int .i64 (m : Int) ∧ t.length ≤ 4 * m ∧ Hid (t = x.1 ++ ((l.drop (k + 1)).take (m - (k + 1))).flatMap (·.1)) ∧
            Hid (∀ j y, k + 1 ≤ j → j < m → l[j]? = some y → letterB y.1 = true) ∧ Blk wr (wo.heap.size + 1) 49 #[.int .i64 1, .string (txt t), .int .i64 (p1 : Int), .int .i64 (p2 : Int)] ∧ Below (wo.heap.size + 1) (wo.alloc (.cells #[.string (txt x.1), .bool x.2, .int .i64 (p1 : Int), .int .i64 (p2 : Int)] 48)) wr) (fun i _ => l.length - (intOf i).toNat)
        case atStart => exact ⟨k + 1, x.1, by omega, by omega, by go_num, by omega, Lib.hid (by rw [Nat.sub_self, List.take_zero]; simp), Lib.hid (fun j y g1 g2 _ => by omega), hb0, hbe0⟩
        case round =>
          obtain ⟨m, t, hkm, hml, rfl, htl, HT, HM, hb, hbel⟩ := hrel
          obtain ⟨y, hyt, hy1, hy2⟩ := sgs_get (1, 1) l hml
          have hwr : Below wo.heap.size wo wr := ((Below.refl _ wo).alloc (Nat.le_refl _) _).trans (hbel.mono (Nat.le_succ _))
          have hv2 := HV.out _ hwr
          have cy := hv2.cell hyt
          simp only at cy
          have j1 : (0 : Int) ≤ (m : Int) := by omega
          have j2 : (m : Int) < (l.length : Int) + 1 := by omega
          have hyl : y.1.length ≤ 4 := by
            by_cases hm2 : m < l.length
            · exact (hok y (List.mem_of_getElem? (hy1 hm2))).2.1
            · rw [hy2 (by omega)]; simp
          have HLY := Lib.hid (rletter_any y.1 wr (by omega))
          have sT := txt_size t
          have sY := txt_size y.1
          have q0 : wr.cell? ⟨wo.heap.size + 1, 0, none⟩ = some (.int .i64 1) := hb.cell 0
          have q1 : wr.cell? ⟨wo.heap.size + 1, 1, none⟩ = some (.string (txt t)) := hb.cell 1
          have q2 : wr.cell? ⟨wo.heap.size + 1, 2, none⟩ = some (.int .i64 (p1 : Int)) := hb.cell 2
          have q3 : wr.cell? ⟨wo.heap.size + 1, 3, none⟩ = some (.int .i64 (p2 : Int)) := hb.cell 3
          have f1 := hb.frozen 1
          cases hly : letterB y.1 with
          | true =>
            have hm2 : m < l.length := by
              rcases Nat.lt_or_ge m l.length with h | h
              · exact h
              · rw [hy2 (by omega)] at hly; cases hly
            have hg := hy1 hm2
            have HT2 : Hid (t ++ y.1 = x.1 ++ ((l.drop (k + 1)).take (m + 1 - (k + 1))).flatMap (·.1)) := Lib.hid (by rw [HT.out, flat_step hkm hg, List.append_assoc])
            have HM2 : Hid (∀ j y, k + 1 ≤ j → j < m + 1 → l[j]? = some y → letterB y.1 = true) := Lib.hid (fun j y' g1 g2 g3 => by
              rcases Nat.lt_or_ge j m with g | g
              · exact HM.out j y' g1 g g3
              · obtain rfl : j = m := by omega
                rw [hg] at g3; injection g3 with g3; rw [← g3]; exact hly)
            have HZ : Hid (∀ V, V = wr.drew.setCell ⟨wo.heap.size + 1, 1, none⟩ (.string (txt t ++ txt y.1)) → Blk V (wo.heap.size + 1) 49 #[.int .i64 1, .string (txt (t ++ y.1)), .int .i64 (p1 : Int), .int .i64 (p2 : Int)] ∧ Below (wo.heap.size + 1) (wo.alloc (.cells #[.string (txt x.1), .bool x.2, .int .i64 (p1 : Int), .int .i64 (p2 : Int)] 48)) V) := Lib.hid (by
              rintro V rfl
              have hb' : Blk wr.drew (wo.heap.size + 1) 49 #[.int .i64 1, .string (txt t), .int .i64 (p1 : Int), .int .i64 (p2 : Int)] := hb
              refine ⟨?_, hbel.drew.setCell (Nat.le_refl _) _⟩
              rw [← txt_cat]
              exact hb'.set_ 1 _)
            have htl2 : (t ++ y.1).length ≤ 4 * (m + 1) := by rw [List.length_append]; omega
            rw [hly] at HLY
            clear hy1 hy2 hyt hg HM HT hb hbel hwr hv2 hb0 hbe0 o1 o2 o3 o4
            go_wp2_with fail
            refine HLY.out.mono ?_
            rintro r w' ⟨rfl, rfl⟩
            go_wp2_with fail
            go_region
            all_goals go_wp2
            all_goals obtain ⟨z1, z2⟩ := HZ.out _ rfl
            all_goals exact ⟨⟨m + 1, t ++ y.1, by omega, by omega, by go_num, htl2, HT2, HM2, z1, z2⟩, by simp [intOf]; omega⟩
          | false =>
            have HR := Lib.hid (run_word HG.out hlt (by omega) hml HM.out (fun y' g => by
              have hm2 : m < l.length := (List.getElem?_eq_some_iff.1 g).1
              rw [hy1 hm2] at g; injection g with g; rw [← g]; exact hly) HRUN.out)
            rw [← HT.out, ← HP.out] at HR
            have hblk := Blk.new wr 49 #[.int .i64 1, .string (txt t), .int .i64 (p1 : Int), .int .i64 (p2 : Int)]
            have hown3 := (o1.below (by rw [HS8.out]; exact hbel)).below ((Below.refl _ wr).alloc (Nat.le_refl _) (.cells #[.int .i64 1, .string (txt t), .int .i64 (p1 : Int), .int .i64 (p2 : Int)] 49))
            have hN2 : N ≤ wo.heap.size + 1 := by omega
            have hs2 : wo.heap.size + 1 < wr.heap.size := hb.lt
            have hb3 := (o2.trans (hbel.mono hN2)).alloc (by omega) (.cells #[.int .i64 1, .string (txt t), .int .i64 (p1 : Int), .int .i64 (p2 : Int)] 49)
            have hN3 : N ≤ (wr.alloc (.cells #[.int .i64 1, .string (txt t), .int .i64 (p1 : Int), .int .i64 (p2 : Int)] 49)).heap.size := by simp; omega
            have hone : ∀ u ∈ [Value.int .i64 1, .string (txt t), .int .i64 (p1 : Int), .int .i64 (p2 : Int)], u.oneCell' = true := tkC_one ⟨1, t, (p1, p2)⟩
            rw [hly] at HLY
            clear hy1 hy2 hyt HM HT hb hbel hwr hv2 hb0 hbe0 o1 o2 o3 o4
            go_wp2_with fail
            refine HLY.out.mono ?_
            rintro r w' ⟨rfl, rfl⟩
            go_wp2_with (at_builtin; refine wpList_append_k Try.underlying29 Try.infoT zeroT (by decide) rfl (.tmp 166) (.tmp 168) rfl rfl N _ os.length _ rfl hown3 wr.heap.size rfl [.int .i64 1, .string (txt t), .int .i64 (p1 : Int), .int .i64 (p2 : Int)] hblk rfl hone ?h1 ?h2 hN3 ?_)
            case h1 => omega
            case h2 => omega
            intro v' w' hap
            obtain ⟨hq1, hq2⟩ := app_tok (t := ⟨1, t, (p1, p2)⟩) hown3 hb3 hN3 hap
            clear hap hown3 hb3 hN3 hblk hone q0 q1 q2 q3 f1
            go_wp2
            go_roundw
            case rel => exact ⟨m, _, by omega, by go_num, by simp; omega, hq1, HR, hq2⟩
            case measure => simp [intOf]; omega
      | false =>
        have HE := Lib.hid (run_other HG.out HBL.out h35 h123 h125 h59 h34 hlt HRUN.out)
        rw [hlt] at HLT
        clear h35 h123 h125 h59 h34 hne
        obtain ⟨-, o2, -, o4⟩ := HO.out (.cells #[.string (txt x.1), .bool x.2, .int .i64 (p1 : Int), .int .i64 (p2 : Int)] 48)
        have k0 : (wo.alloc (.cells #[.string (txt x.1), .bool x.2, .int .i64 (p1 : Int), .int .i64 (p2 : Int)] 48)).cell? ⟨B, 0, none⟩ = some (.int .i64 0) := o4.cell 0
        have k1 : (wo.alloc (.cells #[.string (txt x.1), .bool x.2, .int .i64 (p1 : Int), .int .i64 (p2 : Int)] 48)).cell? ⟨B, 1, none⟩ = some (.int .i64 0) := o4.cell 1
        have f0 := o4.frozen 0
        have f1 := o4.frozen 1
        have HF : Hid (∀ V, V = (((wo.alloc (.cells #[.string (txt x.1), .bool x.2, .int .i64 (p1 : Int), .int .i64 (p2 : Int)] 48)).drew.setCell ⟨B, 0, none⟩ (.int .i64 (p1 : Int))).setCell ⟨B, 1, none⟩ (.int .i64 (p2 : Int))) → Blk V B 26 #[.int .i64 (p1 : Int), .int .i64 (p2 : Int)] ∧ RAllP s w (.returned (.tuple #[.slice none 0 0, .int .i64 20, .agg #[.int .i64 (p1 : Int), .int .i64 (p2 : Int)]])) V) := Lib.hid (by
          rintro V rfl
          have o5 : Blk (wo.alloc (.cells #[.string (txt x.1), .bool x.2, .int .i64 (p1 : Int), .int .i64 (p2 : Int)] 48)).drew B 26 #[.int .i64 0, .int .i64 0] := o4
          refine ⟨(o5.set_ 0 (.int .i64 (p1 : Int))).set_ 1 (.int .i64 (p2 : Int)), .slice none 0 0, ?_, ?_, ?_⟩
          · rw [HA.out, HE.out, ← HP.out]
          · rw [HA.out, HE.out]; exact OwnK.nil _ _ _ _
          · rw [← HB.out]
            exact ((hBw.trans (o2.mono (Nat.le_of_lt hWB))).drew.setCell (Nat.le_refl _) _).setCell (Nat.le_refl _) _)
        clear o2 o4
        go_wp2_with fail
        refine (HLT _).out.mono ?_
        rintro r w' ⟨rfl, rfl⟩
        go_wp2_with fail
        go_region
        all_goals go_wp2
        all_goals obtain ⟨z1, z2⟩ := HF.out _ rfl
        all_goals exact bodyPost_ret (resAll (b := B) rfl rfl rfl z1) rfl z2
    · obtain rfl : k = l.length := by omega
      have hxn := hx2 rfl
      subst hxn
      have HR := Lib.hid (run_end HRUN.out)
      rw [List.take_length] at HP
      rw [← HP.out] at HR
      have hblk := Blk.new wo 49 #[.int .i64 0, .string (txt []), .int .i64 (p1 : Int), .int .i64 (p2 : Int)]
      have hown3 := hown.below ((Below.refl _ wo).alloc (Nat.le_refl _) (.cells #[.int .i64 0, .string (txt []), .int .i64 (p1 : Int), .int .i64 (p2 : Int)] 49))
      have hb3 := hbw.alloc hNr (.cells #[.int .i64 0, .string (txt []), .int .i64 (p1 : Int), .int .i64 (p2 : Int)] 49)
      have hN3 : N ≤ (wo.alloc (.cells #[.int .i64 0, .string (txt []), .int .i64 (p1 : Int), .int .i64 (p2 : Int)] 49)).heap.size := by simp; omega
      have hone : ∀ u ∈ [Value.int .i64 0, .string (txt []), .int .i64 (p1 : Int), .int .i64 (p2 : Int)], u.oneCell' = true := tkC_one ⟨0, [], (p1, p2)⟩
      clear hx1 hx2 h1 hat hvr hown
      go_wp2_with (at_builtin; refine wpList_append_k Try.underlying29 Try.infoT zeroT (by decide) rfl (.tmp 170) (.tmp 177) rfl rfl N _ os.length _ rfl hown3 wo.heap.size rfl [.int .i64 0, .string (txt []), .int .i64 (p1 : Int), .int .i64 (p2 : Int)] hblk rfl hone ?h1 ?h2 hN3 ?_)
      case h1 => omega
      case h2 => omega
      intro v' w' hap
      obtain ⟨hq1, hq2⟩ := app_tok (t := ⟨0, [], (p1, p2)⟩) hown3 hb3 hN3 hap
      clear hap hown3 hb3 hN3 hblk hone
      have o4 := hbx.below hq2 hWB
      have k0 : w'.cell? ⟨B, 0, none⟩ = some (.int .i64 0) := o4.cell 0
      have k1 : w'.cell? ⟨B, 1, none⟩ = some (.int .i64 0) := o4.cell 1
      have f0 := o4.frozen 0
      have f1 := o4.frozen 1
      have HF : Hid (∀ V, V = ((w'.setCell ⟨B, 0, none⟩ (.int .i64 0)).setCell ⟨B, 1, none⟩ (.int .i64 0)) → Blk V B 26 #[.int .i64 0, .int .i64 0] ∧ RAllP s w (.returned (.tuple #[v', .int .i64 0, .agg #[.int .i64 0, .int .i64 0]])) V) := Lib.hid (by
        rintro V rfl
        refine ⟨(o4.set_ 0 (.int .i64 0)).set_ 1 (.int .i64 0), v', ?_, ?_, ?_⟩
        · rw [HA.out, HR.out]; rfl
        · rw [HA.out, HR.out, ← HB.out]
          exact OwnK.mono ((hq1.grown (grown_set _) (.inr (own_ne hq1 hWB))).grown (grown_set _) (.inr (own_ne hq1 hWB))) (Nat.le_of_lt hWB)
        · rw [← HB.out]
          exact ((hBw.trans (hq2.mono (Nat.le_of_lt hWB))).setCell (Nat.le_refl _) _).setCell (Nat.le_refl _) _)
      clear o4 hq1 hq2
      go_wp2
      all_goals obtain ⟨z1, z2⟩ := HF.out _ rfl
      all_goals exact bodyPost_ret (resAll (b := B) rfl rfl rfl z1) rfl z2

end Go.Proofs.Ytgpcbfjakgndlaa
