/-
  What package octet's next and copied do: next takes bytes from a window's front, or sets its error; copied lays the same bytes in a new block. No condition but those of each theorem.
-/
import Derived.Test.YtdpaijechogmlaaOctA
namespace Go.Proofs.Ytdpaijechogmlaa
open Go.RowKit

theorem Try.cells22o : (Try.prog.info? 5).map (fun i => (i.zero, i.size, i.bytes)) = some (some (.int .u8 0), 1, 1) := by kernel_rfl

section
variable {w : World} {d n k c : Nat} {A : Option Addr} {l : List UInt8}
theorem Rd.take (h : Rd w d (.slice A n c) l) (hk : k ≤ n) : Rd w d (.slice A k c) (l.take k) := by
  obtain ⟨A', c', hv, h1, h2, h3⟩ := h
  injection hv with e1 e2 e3
  subst e1 e2 e3
  have hl : (l.take k).length = k := by simp; omega
  refine ⟨A, c, by rw [hl], by omega, by omega, fun hp => ?_⟩
  obtain ⟨off, rfl, hc⟩ := h3 (by omega)
  exact ⟨off, rfl, fun j b hb => hc j b (by rw [List.getElem?_take] at hb; split at hb <;> simp_all)⟩
theorem Rd.drop (h : Rd w d (.slice A n c) l) (hk : k ≤ n) (_hne : ¬ c = k) : Rd w d (.slice (Option.map (fun x => x.add k) A) (n - k) (c - k)) (l.drop k) := by
  obtain ⟨A', c', hv, h1, h2, h3⟩ := h
  injection hv with e1 e2 e3
  subst e1 e2 e3
  have hl : (l.drop k).length = l.length - k := by simp
  refine ⟨_, _, by rw [hl], by omega, by omega, fun hp => ?_⟩
  obtain ⟨off, rfl, hc⟩ := h3 (by omega)
  refine ⟨off + k, ?_, fun j b hb => ?_⟩
  · simp only [Option.map_some, Addr.add]
    by_cases h0 : k = 0 <;> simp [h0]
  · have := hc (k + j) b (by rw [← hb, List.getElem?_drop])
    rwa [← Nat.add_assoc] at this
theorem Rd.drop_end (h : Rd w d (.slice A n c) l) (hk : k ≤ n) (he : c = k) : Rd w d (.slice A (n - k) 0) (l.drop k) := by
  obtain ⟨A', c', hv, h1, h2, h3⟩ := h
  injection hv with e1 e2 e3
  subst e1 e2 e3
  have hl : (l.drop k).length = l.length - k := by simp
  exact ⟨_, _, by rw [hl], by omega, by omega, fun hp => absurd hp (by omega)⟩
end

/-! ### next -/
/-- What next answers, what is left, and the error, of a window that has l left, and the error e. -/
def nx (l : List UInt8) (e n : Int) : List UInt8 × List UInt8 × Int :=
  if e ≠ 0 then ([], l, e) else if n < 0 then ([], l, 1) else if (l.length : Int) < n then ([], l, 10) else (l.take n.toNat, l.drop n.toNat, 0)

def NextPost (g d : Nat) (l : List UInt8) (e n : Int) (w : World) (r : Ending) (w' : World) : Prop :=
  ∃ v, r = .returned v ∧ Rd w' d v (nx l e n).1 ∧ Win w' g d (nx l e n).2.1 (nx l e n).2.2 ∧ w.grownBy w' (some g) ∧ Sz w' w.heap.size

theorem grown_set {w : World} {g i : Nat} (u : Value) : w.grownBy (w.setCell ⟨g, i, none⟩ u) (some g) :=
  ⟨rfl, rfl, rfl, by simp [World.setCell], fun k _ hne => Below.heap_setCell w _ u k (fun e => hne (by rw [e]))⟩

theorem next_any (g d : Nat) (l : List UInt8) (e n : Int) (w : World) (h : Win w g d l e) (hd : d ≠ g) :
    Calls Try.prog 39 #[.pointer (some ⟨g, 0, none⟩), .int .i64 n] w (NextPost g d l e n w) := by
  have hw := h
  obtain ⟨v, hb, hr⟩ := h
  have hr' := hr
  obtain ⟨A, c, rfl, hlc, hc47, hA⟩ := hr
  have h0 : w.cell? ⟨g, 0, none⟩ = some (.slice A l.length c) := by rw [hb.cell]; rfl
  have h1 : w.cell? ⟨g, 1, none⟩ = some (.int .i64 e) := by rw [hb.cell]; rfl
  have f0 : w.frozen? ⟨g, 0, none⟩ = false := hb.frozen 0
  have f1 : w.frozen? ⟨g, 1, none⟩ = false := hb.frozen 1
  by_cases he : e = 0
  · subst he
    by_cases hn : n < 0
    · have Hp : NextPost g d l 0 n w (.returned (.slice none 0 0)) (w.setCell ⟨g, 1, none⟩ (.int .i64 1)) := by
        have hx : nx l 0 n = ([], l, 1) := by simp [nx, hn]
        refine ⟨_, rfl, ?_, ?_, grown_set _, by simp [Sz, World.setCell]⟩
        · rw [hx]; exact Rd.nil _ _
        · rw [hx]; exact ⟨_, hb.set_ 1 _, hr'.setCell (by simpa using hd) _⟩
      have HP := Lib.hid Hp
      clear Hp
      go_enter Try.func39, Try.ntmps39
      go_wp2_with (go_at_call 42; refine (err_any g d l _ _ hw).mono ?_; rintro r w' ⟨rfl, rfl⟩)
      go_ret
      exact HP.out
    · by_cases hn2 : (l.length : Int) < n
      · have Hp : NextPost g d l 0 n w (.returned (.slice none 0 0)) (w.setCell ⟨g, 1, none⟩ (.int .i64 10)) := by
          have hx : nx l 0 n = ([], l, 10) := by simp [nx, hn, hn2]
          refine ⟨_, rfl, ?_, ?_, grown_set _, by simp [Sz, World.setCell]⟩
          · rw [hx]; exact Rd.nil _ _
          · rw [hx]; exact ⟨_, hb.set_ 1 _, hr'.setCell (by simpa using hd) _⟩
        have HP := Lib.hid Hp
        clear Hp
        go_enter Try.func39, Try.ntmps39
        go_wp2_with (go_at_call 42; refine (err_any g d l _ _ hw).mono ?_; rintro r w' ⟨rfl, rfl⟩)
        go_ret
        exact HP.out
      · obtain ⟨k, rfl⟩ := Int.eq_ofNat_of_zero_le (Int.not_lt.mp hn)
        have hk : k ≤ l.length := by omega
        have hx : nx l 0 (k : Int) = (l.take k, l.drop k, 0) := by simp [nx, hn, hn2]
        have Hp1 : c = k → NextPost g d l 0 k w (.returned (.slice A k k)) (w.setCell ⟨g, 0, none⟩ (.slice A (l.length - k) 0)) := by
          rintro rfl
          refine ⟨_, rfl, ?_, ?_, grown_set _, by simp [Sz, World.setCell]⟩
          · rw [hx]; exact (hr'.take hk).setCell (by simpa using hd) _
          · rw [hx]; exact ⟨_, hb.set_ 0 _, (hr'.drop_end hk rfl).setCell (by simpa using hd) _⟩
        have Hp2 : ¬ c = k → NextPost g d l 0 k w (.returned (.slice A k c)) (w.setCell ⟨g, 0, none⟩ (.slice (Option.map (fun x => x.add k) A) (l.length - k) (c - k))) := by
          intro hne
          refine ⟨_, rfl, ?_, ?_, grown_set _, by simp [Sz, World.setCell]⟩
          · rw [hx]; exact (hr'.take hk).setCell (by simpa using hd) _
          · rw [hx]; exact ⟨_, hb.set_ 0 _, (hr'.drop hk hne).setCell (by simpa using hd) _⟩
        have HP1 := Lib.hid Hp1
        have HP2 := Lib.hid Hp2
        clear Hp1 Hp2 hx
        go_enter Try.func39, Try.ntmps39
        go_wp2_with (go_at_call 42; refine (err_any g d l _ _ hw).mono ?_; rintro r w' ⟨rfl, rfl⟩)
        all_goals
          go_ret
          first | exact HP1.out ‹_› | exact HP2.out ‹_›
  · have Hp : NextPost g d l e n w (.returned (.slice none 0 0)) w := by
      have hx : nx l e n = ([], l, e) := by simp [nx, he]
      refine ⟨_, rfl, ?_, ?_, World.grownBy.refl w _, rfl⟩
      · rw [hx]; exact Rd.nil _ _
      · rw [hx]; exact hw
    have HP := Lib.hid Hp
    clear Hp
    have hb : (e != 0) = true := by simpa using he
    go_enter Try.func39, Try.ntmps39
    go_wp2_with (go_at_call 42; refine (err_any g d l _ _ hw).mono ?_; rintro r w' ⟨rfl, rfl⟩)
    go_ret
    exact HP.out

/-! ### copied -/
def CopyPost (l : List UInt8) (w : World) (r : Ending) (w' : World) : Prop :=
  r = .returned (.slice (some ⟨w.heap.size, 0, none⟩) l.length l.length) ∧ Blk w' w.heap.size 5 (l.map byteV).toArray ∧ Below w.heap.size w w' ∧ Sz w' (w.heap.size + 1)

theorem copied_any (d : Nat) (v : Value) (l : List UInt8) (w : World) (h : Rd w d v l) :
    Calls Try.prog 38 #[v] w (CopyPost l w) := by
  have hr := h
  obtain ⟨A, c, rfl, hlc, hc47, hA⟩ := h
  have hmk := run_make_row' (P := Try.prog) 27 5 (.int .u8 0) 1 Try.underlying27 Try.cells22o rfl .i64 .i64 l.length (by omega) (by omega)
  have hcp : ∃ w2, (Builtin.copy_ #[27, 27] 3 #[.slice (some ⟨w.heap.size, 0, none⟩) l.length l.length, .slice A l.length c]).run Try.prog (w.alloc (.cells (madeCells #[Value.int .u8 0] l.length) 5)) = .ok (goInt l.length) w2 ∧
      Blk w2 w.heap.size 5 (l.map byteV).toArray ∧ Below w.heap.size w w2 ∧ w2.heap.size = w.heap.size + 1 := by
    have hg : Blk (w.alloc (.cells (madeCells #[Value.int .u8 0] l.length) 5)) w.heap.size 5 (madeCells #[Value.int .u8 0] l.length) := Blk.new _ _ _
    by_cases hl : 0 < l.length
    · obtain ⟨off, rfl, hc⟩ := hA hl
      have hrun := run_copy_row (P := Try.prog) (w.alloc (.cells (madeCells #[Value.int .u8 0] l.length) 5)) 27 27 3 5 w.heap.size 0 l.length l.length ⟨d, off, none⟩ l.length c (madeCells #[Value.int .u8 0] l.length) 5 (l.map byteV)
        Try.underlying27 (by kernel_rfl) hg (by simp) (fun j v hj => ?_) (by simp [size_madeCells]) (fun v hv => ?_)
      · have hE : (List.take 0 (madeCells #[Value.int .u8 0] l.length).toList ++ List.map byteV l ++ List.drop (0 + (List.map byteV l).length) (madeCells #[Value.int .u8 0] l.length).toList) = l.map byteV := by
          rw [List.drop_of_length_le (by simp [size_madeCells])]
          simp
        rw [hE, List.length_map] at hrun
        refine ⟨(w.alloc (.cells (madeCells #[Value.int .u8 0] l.length) 5)).setRow w.heap.size (l.map byteV).toArray, hrun, ?_, below_setRow ((Below.refl _ _).alloc (Nat.le_refl _) _) (Nat.le_refl _) _, by simp [World.setRow]⟩
        exact setRow_heap (w.alloc (.cells (madeCells #[Value.int .u8 0] l.length) 5)) w.heap.size (madeCells #[Value.int .u8 0] l.length) (l.map byteV).toArray 5 (0, 0) hg
      · obtain ⟨b, hb, rfl⟩ : ∃ b, l[j]? = some b ∧ byteV b = v := by simpa using hj
        have hlt : d < w.heap.size := hr.lt hl
        have h1 : ((⟨d, off, none⟩ : Addr).add j) = ⟨d, off + j, none⟩ := by
          simp only [Addr.add]; by_cases h0 : j = 0 <;> simp [h0]
        rw [h1, World.cell?_alloc_lt w _ _ hlt]
        exact hc j b hb
      · obtain ⟨b, _, rfl⟩ := List.mem_map.1 hv
        rfl
    · have hl0 : l = [] := List.eq_nil_of_length_eq_zero (by omega)
      subst hl0
      have hrun := run_copy_none (P := Try.prog) (w.alloc (.cells (madeCells #[Value.int .u8 0] 0) 5)) 27 27 3 5 (some ⟨w.heap.size, 0, none⟩) A 0 0 0 c Try.underlying27 (by kernel_rfl) (by simp)
      have hg' : Blk (w.alloc (.cells (madeCells #[Value.int .u8 0] 0) 5)) w.heap.size 5 #[] := by
        have h := Blk.new w 5 (madeCells #[Value.int .u8 0] 0)
        have e : madeCells #[Value.int .u8 0] 0 = #[] := by simp [madeCells]
        rw [e] at h ⊢
        exact h
      exact ⟨_, by simpa using hrun, hg', (Below.refl _ _).alloc (Nat.le_refl _) _, by simp⟩
  obtain ⟨w2, hcp, hblk, hbel, hsz⟩ := hcp
  have HB := Lib.hid hblk
  have HL := Lib.hid hbel
  have HS := Lib.hid hsz
  clear hblk hbel hsz
  go_enter Try.func38, Try.ntmps38
  go_wp2
  go_ret
  exact ⟨rfl, HB.out, HL.out, HS.out⟩

end Go.Proofs.Ytdpaijechogmlaa
