/-
  What the document's Signs answers (package tollbarref05): a text's characters, and where they are. No condition but those of each theorem.
-/
import Derived.Test.YtgpcbfjakgndlaaLexRefA
import Derived.Test.YtgpcbfjakgndlaaLexOrd
import Derived.Lib.OthersKept
import Derived.WalkSmall
import Derived.Laws.RangeAny
import Derived.LoopTactic
namespace Go.Proofs.Ytgpcbfjakgndlaa
open Go.RowKit
set_option linter.unusedSimpArgs false

theorem sz_le (c : Nat) : 1 ≤ sz c ∧ sz c ≤ 4 := by
  unfold sz
  split
  · omega
  split
  · omega
  split <;> omega
theorem nl_iff {s : List UInt8} (h0 : s ≠ []) : (dc s).1 = 10 ↔ s.take (dc s).2 = [10] := by
  have hk := dc_know h0
  constructor
  · intro h
    cases ho : okc s with
    | true => rw [hk.2.2.2.1 ho, h]; decide
    | false => have := (hk.2.2.2.2 ho).1; rw [this] at h; exact absurd h (by decide)
  · intro h
    obtain ⟨a, r, rfl⟩ := List.exists_cons_of_ne_nil h0
    obtain ⟨k, hk2⟩ : ∃ k, (dc (a :: r)).2 = k + 1 := ⟨(dc (a :: r)).2 - 1, by omega⟩
    rw [hk2, List.take_succ_cons] at h
    injection h with h1 _
    subst h1
    rw [dc_one r (by decide)]
    rfl
/-- Characters with their places, without the end. -/
def sgsI : Ps → List It → List (It × Ps)
  | _, [] => []
  | p, x :: l => (x, p) :: sgsI (adv p x) l
theorem sgsI_snoc (p : Ps) (l : List It) (x : It) : sgsI p (l ++ [x]) = sgsI p l ++ [(x, advs p l)] := by
  induction l generalizing p with
  | nil => rfl
  | cons y l ih => simp only [List.cons_append, sgsI, ih]; rfl
theorem sgs_eq (p : Ps) (l : List It) : sgs p l = sgsI p l ++ [(([], false), advs p l)] := by
  induction l generalizing p with
  | nil => rfl
  | cons y l ih => simp only [sgs, sgsI, ih, List.cons_append]; rfl
theorem sgsI_len (p : Ps) (l : List It) : (sgsI p l).length = l.length := by
  induction l generalizing p with
  | nil => rfl
  | cons y l ih => simp only [sgsI, List.length_cons, ih]

theorem Try.infoS : (Try.prog.info? 48).map (fun i => (i.zero, i.size, i.bytes)) = some (some (.agg #[.string ⟨#[]⟩, .bool false, .int .i64 0, .int .i64 0]), 4, 40) := by kernel_rfl
theorem zeroS : (Value.agg #[.string ⟨#[]⟩, .bool false, .int .i64 0, .int .i64 0]).cells.size = 4 := by rfl
def SgnP (s : List UInt8) (w : World) (r : Ending) (w' : World) : Prop := ∃ v, r = .returned v ∧ OwnK 48 4 w' (w.heap.size + 1) v ((cut s).length + 1) ((sgs (1, 1) (cut s)).flatMap sgC) ∧ Below w.heap.size w w'
theorem OwnK.iterAt {w : World} {e : TypeId} {k base : Nat} {v : Value} {n : Nat} {xs : List Value} (h : OwnK e k w base v n xs) {b : Nat} (hb : b < base) (s : ByteArray) (p : Nat) : OwnK e k (w.iterAt b s p) base v n xs := ownsRow_iterAt h hb s p

set_option maxRecDepth 100000 in
set_option maxHeartbeats 4000000 in
theorem rsigns_any (s : List UInt8) (w : World) (hs : s.length ≤ 100000) : Calls Try.prog 19 #[.string (txt s)] w (SgnP s w) := by
  have hsz := txt_size s
  go_enter Try.func19, Try.ntmps19
  go_wp2
  obtain ⟨B, hB⟩ : ∃ B, B = w.heap.size := ⟨_, rfl⟩
  have hit0 := World.iter_heap w (txt s) 0
  have hb0 : Below w.heap.size w (w.iter (txt s) 0) := (Below.refl _ w).alloc (Nat.le_refl _) _
  rw [← hB] at hit0 hb0 ⊢
  have HB := Lib.hid hB
  clear hB
  go_loopw [3, 4, 5] (fun o ln cl wr => ∃ (its : List It) (pos : Nat), Hid (cut s = its ++ cut (s.drop pos)) ∧ pos ≤ s.length ∧ ln = .int .i64 ((advs (1, 1) its).1 : Int) ∧ cl = .int .i64 ((advs (1, 1) its).2 : Int) ∧
      OwnK 48 4 wr (B + 1) o its.length ((sgsI (1, 1) its).flatMap sgC) ∧ wr.heap[B]? = some (.stringIter (txt s) pos) ∧ Below B w wr) (fun _ _ _ wr => s.length - wr.iterPos B)
  case atStart => exact ⟨[], 0, Lib.hid rfl, Nat.zero_le _, rfl, rfl, OwnK.nil _ _ _ _, hit0, hb0⟩
  case round =>
    obtain ⟨its, pos, HC, hpos, rfl, rfl, hown, hit, hbel⟩ := hrel
    obtain ⟨ln, hln⟩ : ∃ ln, ln = (advs (1, 1) its).1 := ⟨_, rfl⟩
    obtain ⟨cl, hcl⟩ : ∃ cl, cl = (advs (1, 1) its).2 := ⟨_, rfl⟩
    rw [← hln, ← hcl]
    have hil : its.length ≤ 100000 := by
      have h1 := cut_len s
      have h2 := congrArg List.length HC.out
      rw [List.length_append] at h2
      omega
    have hbd := advs_bound (1, 1) its
    rw [← hln, ← hcl] at hbd
    have hl9 : ln ≤ 200000 := by omega
    have hc9 : cl ≤ 200000 := by simp at hbd; omega
    by_cases hlt : pos < s.length
    · have h0 : s.drop pos ≠ [] := by intro e; have := congrArg List.length e; rw [List.length_drop] at this; simp at this; omega
      have hnx : ∀ ty, (Instr.next (.pointer (some ⟨B, 0, none⟩)) true ty).run Try.prog wr = _ := fun ty => Lib.run_next_any_at wr B (txt s) pos ty hit (by rw [txt_size]; exact hlt)
      rw [dec_at s pos (by omega)] at hnx
      have hk := dc_know h0
      have hnl := nl_iff h0
      have hcc := cut_cons h0
      obtain ⟨R, hR⟩ : ∃ R, R = s.drop pos := ⟨_, rfl⟩
      rw [← hR] at hnx hk hnl hcc h0
      obtain ⟨c, k, hdc⟩ : ∃ c k, dc R = (c, k) := ⟨_, _, rfl⟩
      rw [hdc] at hnx hk hnl hcc
      simp only at hnx hk hnl hcc
      obtain ⟨hk1, hk2, hc14, hk4, hk5⟩ := hk
      have hRl : R.length = s.length - pos := by rw [hR, List.length_drop]
      obtain ⟨x, hx⟩ : ∃ x : It, x = (R.take k, okc R) := ⟨_, rfl⟩
      have HC2 : Hid (cut s = (its ++ [x]) ++ cut (s.drop (pos + k))) := Lib.hid (by
        rw [HC.out, ← hR, hcc, ← hx, hR, List.drop_drop, List.append_assoc]
        rfl)
      have hadv : advs (1, 1) (its ++ [x]) = adv (advs (1, 1) its) x := by rw [advs_app]; rfl
      have hcells : Hid ((sgsI (1, 1) (its ++ [x])).flatMap sgC = (sgsI (1, 1) its).flatMap sgC ++ [.string (txt (R.take k)), .bool (okc R), .int .i64 (ln : Int), .int .i64 (cl : Int)]) := Lib.hid (by
        rw [sgsI_snoc, List.flatMap_append, hx, hln, hcl]; rfl)
      have hext : ∀ m, m ≤ R.length → (txt s).extract pos (pos + m) = txt (R.take m) := fun m hm => by
        rw [txt_extract, hR, List.drop_take]
        congr 2
        omega
      obtain ⟨W, hW⟩ : ∃ W, wr.iterAt B (txt s) (pos + k) = W := ⟨_, rfl⟩
      have hit2 := Lib.iterAt_heap wr B (txt s) pos (pos + k) hit
      have hbel2 := Lib.below_iterAt hbel (k := B) (Nat.le_refl _) (txt s) (pos + k)
      have hown2 := hown.iterAt (b := B) (by omega) (txt s) (pos + k)
      rw [hW] at hnx hit2 hbel2 hown2
      have hBW : B < W.heap.size := (Array.getElem?_eq_some_iff.1 hit2).1
      have hxk := hext k hk2
      have henc : Utf8.encode (c : Int) = txt (encU c) := by unfold encU txt; simp
      obtain ⟨n0, hn0⟩ : ∃ n0, n0 = sz c := ⟨_, rfl⟩
      have HSZ := Lib.hid (rsize_any c W)
      rw [← hn0] at HSZ
      obtain ⟨hn1, hn4⟩ : 1 ≤ n0 ∧ n0 ≤ 4 := by rw [hn0]; exact sz_le c
      have hok : okc R = true → n0 = k := fun h => by
        unfold okc at h
        rw [hdc] at h
        rw [hn0]
        exact (beq_iff_eq.1 h).symm
      have HX := Lib.hid hx
      have HAD := Lib.hid hadv
      clear hbel hown hW hdc hcc hx hadv
      have hone : ∀ u ∈ [Value.string (txt (R.take k)), .bool (okc R), .int .i64 (ln : Int), .int .i64 (cl : Int)], u.oneCell' = true := by
        intro u hu
        simp only [List.mem_cons, List.not_mem_nil, or_false] at hu
        rcases hu with rfl | rfl | rfl | rfl <;> rfl
      have hblk := Blk.new W 48 #[Value.string (txt (R.take k)), .bool (okc R), .int .i64 (ln : Int), .int .i64 (cl : Int)]
      have hbel3 : Below B w (W.alloc (.cells #[Value.string (txt (R.take k)), .bool (okc R), .int .i64 (ln : Int), .int .i64 (cl : Int)] 48)) := hbel2.alloc (Nat.le_of_lt hBW) _
      have hown3 := hown2.below ((Below.refl _ W).alloc (Nat.le_refl _) (.cells #[Value.string (txt (R.take k)), .bool (okc R), .int .i64 (ln : Int), .int .i64 (cl : Int)] 48))
      have hbs3 : B + 1 ≤ (W.alloc (.cells #[Value.string (txt (R.take k)), .bool (okc R), .int .i64 (ln : Int), .int .i64 (cl : Int)] 48)).heap.size := by simp; omega
      have hit3 : (W.alloc (.cells #[Value.string (txt (R.take k)), .bool (okc R), .int .i64 (ln : Int), .int .i64 (cl : Int)] 48)).heap[B]? = some (.stringIter (txt s) (pos + k)) := (Below.heap_alloc W _ B hBW).trans hit2
      -- what is behind the append, whichever the character
      have hend : ∀ v' w', AppK 48 4 (W.alloc (.cells #[Value.string (txt (R.take k)), .bool (okc R), .int .i64 (ln : Int), .int .i64 (cl : Int)] 48)) (B + 1) u3 (its.length + 1) ((sgsI (1, 1) its).flatMap sgC ++ [.string (txt (R.take k)), .bool (okc R), .int .i64 (ln : Int), .int .i64 (cl : Int)]) v' w' →
          OwnK 48 4 w' (B + 1) v' (its ++ [x]).length ((sgsI (1, 1) (its ++ [x])).flatMap sgC) ∧ w'.heap[B]? = some (.stringIter (txt s) (pos + k)) ∧ Below B w w' := fun v' w' h => by
        have hb := h.below hown3 hbs3
        refine ⟨?_, (hb.block B (by omega)).trans hit3, hbel3.trans (hb.mono (by omega))⟩
        rw [hcells.out, List.length_append]
        exact h.1
      have HEND := Lib.hid hend
      have hpk : pos + k ≤ s.length := by omega
      clear hend hit2 hbel2 hown2 hbel3 hit3 hcells
      have hit0' := hit
      have hx1 : x.1 = R.take k := by rw [HX.out]
      cases ho : okc R with
      | true =>
        have hnk := hok ho
        subst hnk
        have hee : ((txt (R.take n0)).toList == (txt (encU c)).toList) = true := by rw [hk4 ho]; exact beq_self_eq_true _
        have d1 : decide ((pos : Int) + (n0 : Int) ≤ (s.length : Int)) = true := decide_eq_true (by omega)
        have i1 : (pos : Int) + (n0 : Int) ≤ (s.length : Int) := by omega
        rw [ho] at hblk hown3 hbs3 hone HEND
        by_cases hc10 : c = 10
        · have hxn : x.1 = [10] := by rw [hx1]; exact hnl.1 hc10
          have e10 : ((c : Int) == 10) = true := by rw [hc10]; rfl
          have HA1 : Hid ((advs (1, 1) (its ++ [x])).1 = ln + 1) := Lib.hid (by rw [HAD.out]; unfold adv; rw [if_pos hxn, ← hln])
          have HA2 : Hid ((advs (1, 1) (its ++ [x])).2 = 1) := Lib.hid (by rw [HAD.out]; unfold adv; rw [if_pos hxn])
          clear hxn hx1 hnl hk4 hk5 hok hn0 hext ho hc10 hln hcl hbd h0 hR
          go_wp2_with fail
          refine HSZ.out.mono ?_
          rintro r w' ⟨rfl, rfl⟩
          go_wp2_with (at_builtin; refine wpList_append_k Try.underlying45 Try.infoS zeroS (by decide) rfl (.tmp 37) (.tmp 49) rfl rfl (B + 1) _ its.length _ rfl hown3 W.heap.size rfl [.string (txt (R.take n0)), .bool true, .int .i64 (ln : Int), .int .i64 (cl : Int)] hblk rfl hone ?h1 ?h2 hbs3 ?_)
          case h1 => omega
          case h2 => omega
          intro v' w' hap
          have HQ := HEND.out v' w' hap
          obtain ⟨hq1, hq2, hq3⟩ := HQ
          clear hap HEND hbs3 hblk hone
          go_wp2
          go_roundw
          case rel => exact ⟨its ++ [x], pos + n0, HC2, by omega, by rw [HA1.out] <;> first | rfl | (push_cast; rfl), by rw [HA2.out] <;> first | rfl | (push_cast; rfl), hq1, hq2, hq3⟩
          case measure => rw [iterPos_of hq2, iterPos_of hit0']; omega
        · have hxn : x.1 ≠ [10] := by rw [hx1]; exact fun h => hc10 (hnl.2 h)
          have e10 : ((c : Int) == 10) = false := beq_eq_false_iff_ne.2 (by omega)
          have HA1 : Hid ((advs (1, 1) (its ++ [x])).1 = ln) := Lib.hid (by rw [HAD.out]; unfold adv; rw [if_neg hxn, ← hln])
          have HA2 : Hid ((advs (1, 1) (its ++ [x])).2 = cl + 1) := Lib.hid (by rw [HAD.out]; unfold adv; rw [if_neg hxn, ← hcl])
          clear hxn hx1 hnl hk4 hk5 hok hn0 hext ho hc10 hln hcl hbd h0 hR
          go_wp2_with fail
          refine HSZ.out.mono ?_
          rintro r w' ⟨rfl, rfl⟩
          go_wp2_with (at_builtin; refine wpList_append_k Try.underlying45 Try.infoS zeroS (by decide) rfl (.tmp 37) (.tmp 49) rfl rfl (B + 1) _ its.length _ rfl hown3 W.heap.size rfl [.string (txt (R.take n0)), .bool true, .int .i64 (ln : Int), .int .i64 (cl : Int)] hblk rfl hone ?h1 ?h2 hbs3 ?_)
          case h1 => omega
          case h2 => omega
          intro v' w' hap
          have HQ := HEND.out v' w' hap
          obtain ⟨hq1, hq2, hq3⟩ := HQ
          clear hap HEND hbs3 hblk hone
          go_wp2
          go_roundw
          case rel => exact ⟨its ++ [x], pos + n0, HC2, by omega, by rw [HA1.out] <;> first | rfl | (push_cast; rfl), by rw [HA2.out] <;> first | rfl | (push_cast; rfl), hq1, hq2, hq3⟩
          case measure => rw [iterPos_of hq2, iterPos_of hit0']; omega
      | false =>
        obtain ⟨e1, hne3, a, r, hRa, ha⟩ := hk5 ho
        injection e1 with e1 e2
        subst e1 e2
        obtain rfl : n0 = 3 := by rw [hn0]; rfl
        have hxn : x.1 ≠ [10] := by
          rw [hx1, hRa]
          intro e
          injection e with e _
          rw [e] at ha
          exact absurd ha (by decide)
        have e10 : ((65533 : Int) == 10) = false := by decide
        rw [ho] at hblk hown3 hbs3 hone HEND
        have ha1 : R.take 1 = [a] := by rw [hRa]; rfl
        rw [ha1] at hxk hblk hown3 hbs3 hone HEND
        by_cases h3 : pos + 3 ≤ s.length
        · have hx3 := hext 3 (by omega)
          have hee : ((txt (R.take 3)).toList == (Utf8.encode 65533).toList) = false := by
            rw [show Utf8.encode (65533 : Int) = txt (encU 65533) from henc, txt_toList, txt_toList]; exact beq_eq_false_iff_ne.2 hne3
          have d1 : decide ((pos : Int) + 3 ≤ (s.length : Int)) = true := decide_eq_true (by omega)
          have i1 : (pos : Int) + 3 ≤ (s.length : Int) := by omega
          clear hRa ha hne3 hn0 ha1
          have HA1 : Hid ((advs (1, 1) (its ++ [x])).1 = ln) := Lib.hid (by rw [HAD.out]; unfold adv; rw [if_neg hxn, ← hln])
          have HA2 : Hid ((advs (1, 1) (its ++ [x])).2 = cl + 1) := Lib.hid (by rw [HAD.out]; unfold adv; rw [if_neg hxn, ← hcl])
          clear hxn hx1 hnl hk4 hok hext ho hln hcl hbd h0 hR h3
          go_wp2_with fail
          refine HSZ.out.mono ?_
          rintro r w' ⟨rfl, rfl⟩
          go_wp2_with (at_builtin; refine wpList_append_k Try.underlying45 Try.infoS zeroS (by decide) rfl (.tmp 37) (.tmp 49) rfl rfl (B + 1) _ its.length _ rfl hown3 W.heap.size rfl [.string (txt [a]), .bool false, .int .i64 (ln : Int), .int .i64 (cl : Int)] hblk rfl hone ?h1 ?h2 hbs3 ?_)
          case h1 => omega
          case h2 => omega
          intro v' w' hap
          have HQ := HEND.out v' w' hap
          obtain ⟨hq1, hq2, hq3⟩ := HQ
          clear hap HEND hbs3 hblk hone
          go_wp2
          go_roundw
          case rel => exact ⟨its ++ [x], pos + 1, HC2, by omega, by rw [HA1.out] <;> first | rfl | (push_cast; rfl), by rw [HA2.out] <;> first | rfl | (push_cast; rfl), hq1, hq2, hq3⟩
          case measure => rw [iterPos_of hq2, iterPos_of hit0']; omega
        · have d1 : decide ((pos : Int) + 3 ≤ (s.length : Int)) = false := decide_eq_false (by omega)
          have i1 : ¬ (pos : Int) + 3 ≤ (s.length : Int) := by omega
          clear hRa ha hne3 hn0 ha1
          have HA1 : Hid ((advs (1, 1) (its ++ [x])).1 = ln) := Lib.hid (by rw [HAD.out]; unfold adv; rw [if_neg hxn, ← hln])
          have HA2 : Hid ((advs (1, 1) (its ++ [x])).2 = cl + 1) := Lib.hid (by rw [HAD.out]; unfold adv; rw [if_neg hxn, ← hcl])
          clear hxn hx1 hnl hk4 hok hext ho hln hcl hbd h0 hR h3
          go_wp2_with fail
          refine HSZ.out.mono ?_
          rintro r w' ⟨rfl, rfl⟩
          go_wp2_with (at_builtin; refine wpList_append_k Try.underlying45 Try.infoS zeroS (by decide) rfl (.tmp 37) (.tmp 49) rfl rfl (B + 1) _ its.length _ rfl hown3 W.heap.size rfl [.string (txt [a]), .bool false, .int .i64 (ln : Int), .int .i64 (cl : Int)] hblk rfl hone ?h1 ?h2 hbs3 ?_)
          case h1 => omega
          case h2 => omega
          intro v' w' hap
          have HQ := HEND.out v' w' hap
          obtain ⟨hq1, hq2, hq3⟩ := HQ
          clear hap HEND hbs3 hblk hone
          go_wp2
          go_roundw
          case rel => exact ⟨its ++ [x], pos + 1, HC2, by omega, by rw [HA1.out] <;> first | rfl | (push_cast; rfl), by rw [HA2.out] <;> first | rfl | (push_cast; rfl), hq1, hq2, hq3⟩
          case measure => rw [iterPos_of hq2, iterPos_of hit0']; omega
    · have hpe : pos = s.length := by omega
      have hnx : ∀ ty, (Instr.next (.pointer (some ⟨B, 0, none⟩)) true ty).run Try.prog wr = _ := fun ty => Lib.run_next_end_at wr B (txt s) pos ty hit (by rw [txt_size]; omega)
      have HI : Hid (its = cut s) := Lib.hid (by rw [HC.out, hpe, List.drop_length, cut_nil, List.append_nil])
      have hone : ∀ u ∈ [Value.string (txt []), .bool false, .int .i64 (ln : Int), .int .i64 (cl : Int)], u.oneCell' = true := by
        intro u hu
        simp only [List.mem_cons, List.not_mem_nil, or_false] at hu
        rcases hu with rfl | rfl | rfl | rfl <;> rfl
      have hBW : B < wr.heap.size := (Array.getElem?_eq_some_iff.1 hit).1
      have hblk := Blk.new wr 48 #[Value.string (txt []), .bool false, .int .i64 (ln : Int), .int .i64 (cl : Int)]
      have hown3 := hown.below ((Below.refl _ wr).alloc (Nat.le_refl _) (.cells #[Value.string (txt []), .bool false, .int .i64 (ln : Int), .int .i64 (cl : Int)] 48))
      have hbel3 : Below B w (wr.alloc (.cells #[Value.string (txt []), .bool false, .int .i64 (ln : Int), .int .i64 (cl : Int)] 48)) := hbel.alloc (Nat.le_of_lt hBW) _
      have hbs3 : B + 1 ≤ (wr.alloc (.cells #[Value.string (txt []), .bool false, .int .i64 (ln : Int), .int .i64 (cl : Int)] 48)).heap.size := by simp; omega
      have HCE : Hid ((sgs (1, 1) (cut s)).flatMap sgC = (sgsI (1, 1) its).flatMap sgC ++ [.string (txt []), .bool false, .int .i64 (ln : Int), .int .i64 (cl : Int)]) := Lib.hid (by
        rw [sgs_eq, List.flatMap_append, ← HI.out, hln, hcl]; rfl)
      clear hpe hlt hit hbel hown hln hcl hbd
      go_wp2_with (at_builtin; refine wpList_append_k Try.underlying45 Try.infoS zeroS (by decide) rfl (.tmp 57) (.tmp 62) rfl rfl (B + 1) _ its.length _ rfl hown3 wr.heap.size rfl [.string (txt []), .bool false, .int .i64 (ln : Int), .int .i64 (cl : Int)] hblk rfl hone ?h1 ?h2 hbs3 ?_)
      case h1 => omega
      case h2 => omega
      intro v' w' hap
      have hb := hap.below hown3 hbs3
      have HF : Hid (SgnP s w (.returned v') w') := Lib.hid ⟨v', rfl, by rw [HCE.out, ← HI.out, ← HB.out]; exact hap.1, by rw [← HB.out]; exact hbel3.trans (hb.mono (by omega))⟩
      clear hap hb hbel3 hown3 hbs3 hblk hone
      go_wp2
      go_ret
      exact HF.out

end Go.Proofs.Ytgpcbfjakgndlaa
