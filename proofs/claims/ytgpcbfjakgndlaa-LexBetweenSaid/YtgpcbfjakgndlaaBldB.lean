/-
  A strings.Builder's writers: WriteByte, WriteString, WriteRune. No condition but those of each theorem.
-/
import Derived.Test.YtgpcbfjakgndlaaBldA
namespace Go.Proofs.Ytgpcbfjakgndlaa
open Go.RowKit Go.Shelf
set_option linter.unusedSimpArgs false

/-- What is known of the builder's block behind an append to its row. -/
theorem bld_cells {B b : Nat} {bs : List Value} {v : Value} {w1 w2 w0 : World} (hbk : w1.heap[b]? = some (.cells #[.pointer (some ⟨b, 0, none⟩), v] 55 (0, 0))) (hw : w0 = w1 ∨ ∃ o, w0 = w1.alloc o) (hne : v.ownBlock ≠ some b) (hgrow : w0.grownBy w2 v.ownBlock)
    (hown : w1.ownsRowF B 5 1 v bs.length bs) : w2.heap[b]? = some (.cells #[.pointer (some ⟨b, 0, none⟩), v] 55 (0, 0)) ∧ w1.heap.size ≤ w2.heap.size ∧ w0.ownsRowF B 5 1 v bs.length bs := by
  have hlt : b < w1.heap.size := (Array.getElem?_eq_some_iff.1 hbk).1
  rcases hw with rfl | ⟨o, rfl⟩
  · exact ⟨(hgrow.block b hlt (fun e => hne e.symm)).trans hbk, hgrow.size, hown⟩
  · have h1 : w1.heap.size ≤ (w1.alloc o).heap.size := by simp
    exact ⟨(hgrow.block b (Nat.lt_of_lt_of_le hlt h1) (fun e => hne e.symm)).trans ((Lib.alloc_old w1 o b hlt).trans hbk), Nat.le_trans h1 hgrow.size, hown.alloc o⟩
theorem bld_done {B b : Nat} {bs cs : List Value} {v v' : Value} {w w1 w2 w0 : World} (hB : B ≤ b) (hBw : B ≤ w.heap.size) (hb1 : Below B w w1) (hk1 : Lib.OthersKept 5 (some b) w w1)
    (hbk : w1.heap[b]? = some (.cells #[.pointer (some ⟨b, 0, none⟩), v] 55 (0, 0))) (hw : w0 = w1 ∨ ∃ o, w0 = w1.alloc o) (hne : v.ownBlock ≠ some b) (hgrow : w0.grownBy w2 v.ownBlock)
    (hown : w1.ownsRowF B 5 1 v bs.length bs) (hown' : w2.ownsRowF B 5 1 v' (bs ++ cs).length (bs ++ cs)) :
    Lib.IsBuilderF 55 5 B b (bs ++ cs) (w2.setCell ⟨b, 1, none⟩ v') ∧ Below B w (w2.setCell ⟨b, 1, none⟩ v') ∧ Lib.OthersKept 5 (some b) w (w2.setCell ⟨b, 1, none⟩ v') := by
  obtain ⟨h2, _, hown0⟩ := bld_cells hbk hw hne hgrow hown
  have hs := hb1.size
  have hb0 : Below B w w0 := by
    rcases hw with rfl | ⟨o, rfl⟩
    · exact hb1
    · exact hb1.alloc (by omega) o
  have hk0 : Lib.OthersKept 5 (some b) w w0 := by
    rcases hw with rfl | ⟨o, rfl⟩
    · exact hk1
    · exact hk1.alloc o
  have hs0 := hb0.size
  refine ⟨.inr (Lib.BuilderAtF.put hB h2 hown' (by decide)), (hb0.grown hgrow (by omega) (fun k hk => (hown.lt k hk).1)).setCell (p := ⟨b, 1, none⟩) hB _, (hk0.grown hgrow (Lib.ownsRowF_kind hown0)).setCell ⟨b, 1, none⟩ rfl _⟩

set_option maxHeartbeats 2000000 in
set_option maxRecDepth 100000 in
theorem bbyte_any (B b : Nat) (l : List UInt8) (c : UInt8) (w : World) (h : Bld w B b l) (hlen : l.length + 1 ≤ 140737488355328) (hBw : B ≤ w.heap.size) :
    Calls Try.prog 22 #[.pointer (some ⟨b, 0, none⟩), .int .u8 (c.toNat : Int)] w fun e w' => e = .returned .nilIface ∧ BldP w B b (l ++ [c]) w' := by
  obtain ⟨i0, hi, hz0, hz1, hz2⟩ := info_parts info_b
  have hl : (Lib.byteCells l).length = l.length := Lib.byteCells_length l
  have hmono : (Lib.byteCells (l ++ [c])) = Lib.byteCells l ++ [.int .u8 (c.toNat : Int)] := Lib.byteCells_append l [c]
  unfold BldP Bld at *
  rw [hmono]
  generalize Lib.byteCells l = bs at h hl ⊢
  rw [← hl] at hlen
  clear hmono hl
  go_enter Try.func22, Try.ntmps22
  go_wp2_with fail
  refine (copy_any B b bs _ h).mono ?_
  rintro e w1 ⟨rfl, h1, hb1, hk1⟩
  obtain ⟨hB, v, hbk, hown, hne⟩ := h1
  have c0 : w1.cell? ⟨b, 0, none⟩ = some (.pointer (some ⟨b, 0, none⟩)) := by rw [Lib.cell_of_heap hbk]; rfl
  have c1 : w1.cell? ⟨b, 1, none⟩ = some v := by rw [Lib.cell_of_heap hbk]; rfl
  have hs1 := hb1.size
  go_wp2_with (at_builtin; refine wpList_append_ownF _ rfl _ _ 53 rfl B 5 i0 (.int .u8 0) 1 1 Try.underlying53 hi hz0 hz1 hz2 rfl (by decide) _ _ _ rfl (hown.alloc _) ⟨w1.heap.size, 0, none⟩ 1 1 [.int .u8 (c.toNat : Int)] rfl rfl ?c1 ?c2 ?c3 ?c4 ?c5 ?_)
  case c1 =>
    intro j u hj
    match j, hj with
    | 0, hj => simp at hj; subst hj; simp [Addr.add]
  case c2 => intro u hu; simp at hu; subst hu; rfl
  case c3 => unfold maxLen; omega
  case c4 => omega
  case c5 => simp; omega
  intro v' w2 hown' hgrow _
  obtain ⟨hb2, -, -⟩ := bld_cells hbk (.inr ⟨_, rfl⟩) hne hgrow hown
  have d0 : w2.cell? ⟨b, 0, none⟩ = some (.pointer (some ⟨b, 0, none⟩)) := by rw [Lib.cell_of_heap hb2]; rfl
  have d1 : w2.cell? ⟨b, 1, none⟩ = some v := by rw [Lib.cell_of_heap hb2]; rfl
  have f1 : w2.frozen? ⟨b, 1, none⟩ = false := Lib.frozen_of_heap hb2 1
  obtain ⟨g, cap, rfl⟩ : ∃ g cap, v' = .slice (some ⟨g, 0, none⟩) (bs.length + 1) cap := by
    rcases hown'.2 with ⟨_, h0⟩ | ⟨g, cap, cur, fz, hv, _⟩
    · omega
    · exact ⟨g, cap, hv⟩
  go_wp2
  go_ret
  exact ⟨rfl, bld_done hB hBw hb1 hk1 hbk (.inr ⟨_, rfl⟩) hne hgrow hown (by simpa using hown')⟩

set_option maxHeartbeats 2000000 in
set_option maxRecDepth 100000 in
theorem bstr_any (B b : Nat) (l t : List UInt8) (w : World) (h : Bld w B b l) (hlen : l.length + t.length ≤ 140737488355328) (hBw : B ≤ w.heap.size) :
    Calls Try.prog 23 #[.pointer (some ⟨b, 0, none⟩), .string (txt t)] w fun e w' => e = .returned (.tuple #[.int .i64 (t.length : Int), .nilIface]) ∧ BldP w B b (l ++ t) w' := by
  obtain ⟨i0, hi, hz0, hz1, hz2⟩ := info_parts info_b
  have hl : (Lib.byteCells l).length = l.length := Lib.byteCells_length l
  have hmono : (Lib.byteCells (l ++ t)) = Lib.byteCells l ++ Lib.strCells (txt t) := by rw [Lib.byteCells_append]; rfl
  have hsz := txt_size t
  unfold BldP Bld at *
  rw [hmono]
  generalize Lib.byteCells l = bs at h hl ⊢
  rw [← hl, ← hsz] at hlen
  have HS := Lib.hid hsz
  clear hmono hl hsz
  go_enter Try.func23, Try.ntmps23
  go_wp2_with fail
  refine (copy_any B b bs _ h).mono ?_
  rintro e w1 ⟨rfl, h1, hb1, hk1⟩
  obtain ⟨hB, v, hbk, hown, hne⟩ := h1
  have c0 : w1.cell? ⟨b, 0, none⟩ = some (.pointer (some ⟨b, 0, none⟩)) := by rw [Lib.cell_of_heap hbk]; rfl
  have c1 : w1.cell? ⟨b, 1, none⟩ = some v := by rw [Lib.cell_of_heap hbk]; rfl
  have hs1 := hb1.size
  go_wp2_with (at_builtin; refine Lib.wpList_append_own_stringF _ rfl _ _ 53 9 rfl B 5 i0 Try.underlying53 Try.underlying9 hi hz0 hz1 hz2 _ _ _ rfl hown (txt t) rfl ?c3 ?c4 ?c5 ?_)
  case c3 => unfold maxLen; omega
  case c4 => omega
  case c5 => omega
  intro v' w2 hown' hgrow _
  obtain ⟨hb2, -, -⟩ := bld_cells hbk (.inl rfl) hne hgrow hown
  have d0 : w2.cell? ⟨b, 0, none⟩ = some (.pointer (some ⟨b, 0, none⟩)) := by rw [Lib.cell_of_heap hb2]; rfl
  have d1 : w2.cell? ⟨b, 1, none⟩ = some v := by rw [Lib.cell_of_heap hb2]; rfl
  have f1 : w2.frozen? ⟨b, 1, none⟩ = false := Lib.frozen_of_heap hb2 1
  obtain ⟨ao, n', cap, rfl⟩ : ∃ ao n' cap, v' = .slice ao n' cap := by
    rcases hown'.2 with ⟨hv, _⟩ | ⟨g, cap, cur, fz, hv, _⟩
    · exact ⟨_, _, _, hv⟩
    · exact ⟨_, _, _, hv⟩
  go_wp2
  go_ret2
  exact ⟨by rw [HS.out]; rfl, bld_done hB hBw hb1 hk1 hbk (.inl rfl) hne hgrow hown (by simpa [Lib.strCells_length] using hown')⟩

theorem rune_le (r : Int) : 1 ≤ (Lib.encodeRune r).length ∧ (Lib.encodeRune r).length ≤ 4 := by
  have := Lib.runeCells_le r
  rwa [Lib.runeCells_length] at this
set_option maxHeartbeats 2000000 in
set_option maxRecDepth 100000 in
theorem brune_any (B b : Nat) (l : List UInt8) (r : Int) (hr0 : -2147483648 ≤ r) (hr1 : r ≤ 2147483647) (w : World) (h : Bld w B b l) (hlen : l.length + 4 ≤ 140737488355328) (hBw : B ≤ w.heap.size) :
    Calls Try.prog 42 #[.pointer (some ⟨b, 0, none⟩), .int .i32 r] w fun e w' => (∃ n, e = .returned (.tuple #[.int .i64 n, .nilIface])) ∧ BldP w B b (l ++ Lib.encodeRune r) w' := by
  have hl : (Lib.byteCells l).length = l.length := Lib.byteCells_length l
  have hmono : (Lib.byteCells (l ++ Lib.encodeRune r)) = Lib.byteCells l ++ Lib.runeCells r := by rw [Lib.byteCells_append, Lib.byteCells_encodeRune]
  have hk4 := Lib.runeCells_le r
  unfold BldP Bld at *
  rw [hmono]
  generalize Lib.byteCells l = bs at h hl ⊢
  rw [← hl] at hlen
  clear hmono hl
  have AR : ∀ (v : Value) (W : World), W.ownsRowF B 5 1 v bs.length bs → B ≤ W.heap.size → Hid (Calls Try.prog 45 #[v, .int .i32 r] W fun e w' => ∃ v', e = .returned v' ∧ w'.ownsRowF B 5 1 v' (bs.length + (Lib.runeCells r).length) (bs ++ Lib.runeCells r) ∧ ∃ o, (W.alloc o).grownBy w' v.ownBlock) :=
    fun v W hown hB => Lib.hid (Any.utf8_AppendRune_own blays242 bextra B v bs.length bs r hr0 hr1 W hown (by omega) hB)
  obtain ⟨k, hk⟩ : ∃ k, k = (Lib.runeCells r).length := ⟨_, rfl⟩
  rw [← hk] at AR hk4
  have HK := Lib.hid hk
  clear hk
  go_enter Try.func42, Try.ntmps42
  go_wp2_with fail
  refine (copy_any B b bs _ h).mono ?_
  rintro e w1 ⟨rfl, h1, hb1, hk1⟩
  obtain ⟨hB, v, hbk, hown, hne⟩ := h1
  obtain ⟨ao, cap, rfl⟩ : ∃ ao cap, v = .slice ao bs.length cap := by
    rcases hown.2 with ⟨hv, h0⟩ | ⟨g, cap, cur, fz, hv, _⟩
    · exact ⟨none, 0, by rw [hv, h0]⟩
    · exact ⟨_, _, hv⟩
  have c0 : w1.cell? ⟨b, 0, none⟩ = some (.pointer (some ⟨b, 0, none⟩)) := by rw [Lib.cell_of_heap hbk]; rfl
  have c1 : w1.cell? ⟨b, 1, none⟩ = some (.slice ao bs.length cap) := by rw [Lib.cell_of_heap hbk]; rfl
  have hs1 := hb1.size
  have AR1 := AR _ w1 hown (by omega)
  clear AR
  go_wp2_with fail
  refine AR1.out.mono ?_
  rintro e w2 ⟨v', rfl, hown', o, hgrow⟩
  obtain ⟨hb2, -, -⟩ := bld_cells hbk (.inr ⟨_, rfl⟩) hne hgrow hown
  have d0 : w2.cell? ⟨b, 0, none⟩ = some (.pointer (some ⟨b, 0, none⟩)) := by rw [Lib.cell_of_heap hb2]; rfl
  have d1 : w2.cell? ⟨b, 1, none⟩ = some (.slice ao bs.length cap) := by rw [Lib.cell_of_heap hb2]; rfl
  have f1 : w2.frozen? ⟨b, 1, none⟩ = false := Lib.frozen_of_heap hb2 1
  obtain ⟨g, cap', rfl⟩ : ∃ g cap', v' = .slice (some ⟨g, 0, none⟩) (bs.length + k) cap' := by
    rcases hown'.2 with ⟨_, h0⟩ | ⟨g, cap', cur, fz, hv, _⟩
    · omega
    · exact ⟨g, cap', hv⟩
  go_wp2
  go_ret2
  exact ⟨⟨_, rfl⟩, bld_done hB hBw hb1 hk1 hbk (.inr ⟨_, rfl⟩) hne hgrow hown (by rw [List.length_append, ← HK.out]; exact hown')⟩

end Go.Proofs.Ytgpcbfjakgndlaa
