/-
  The laws' own examples of layer 3 answer true, and make new memory alone, where package tlv answers as it is to (TlvC).
-/
import Derived.Test.YtdpaijechogmlaaTlvSpec
import Derived.Test.YtdpaijechogmlaaOctG
import Derived.Outline
import Derived.Lib.SlBytesConst
namespace Go.Proofs.Ytdpaijechogmlaa
open Go.RowKit
set_option linter.unusedSimpArgs false

theorem lit3_rd (l : List UInt8) (hl : l.length ≤ 1000) (cs : Array Value) (e : cs = (l.map byteV).toArray) (n : Nat) (hn : n = l.length) (w : World) : Rd (w.alloc (.cells cs 5)) w.heap.size (.slice (some ⟨w.heap.size, 0, none⟩) n n) l := by
  subst e hn
  exact Rd.of_blk (Blk.new w 5 _) (by omega)

theorem get3_at (C : TlvC) (l : List UInt8) (x : Fo × Int × Nat) (w : World) (d : Nat) (v : Value) (h : Rd w d v l) (hl : l.length ≤ 100000) (e : gotOf l = x) : Calls Try.prog 17 #[v] w (GetP x w) := by
  subst e
  exact C.get l w d v h hl

theorem litm_rd (fz : Nat × Nat) (l : List UInt8) (hl : l.length ≤ 1000) (cs : Array Value) (e : cs = (l.map byteV).toArray) (n : Nat) (hn : n = l.length) (w : World) : Rd (w.alloc (.cells cs 5 fz)) w.heap.size (.slice (some ⟨w.heap.size, 0, none⟩) n n) l := by
  subst e hn
  refine ⟨_, _, rfl, Nat.le_refl _, by omega, fun _ => ⟨0, rfl, fun j b hb => ?_⟩⟩
  rw [cell_of_row _ _ _ _ _ _ (heap_alloc_new w _)]
  simp [hb]

/-- The document's example, written out. -/
theorem lit_F (w : World) : FV DataI (((w.alloc (.cells #[.int .u8 97] 5 (1, 2))).alloc (.cells #[.int .u64 2, .slice (some ⟨w.heap.size, 0, none⟩) 1 1, .slice none 0 0] 46)).alloc (.cells #[.int .u64 1, .slice none 0 0, .slice (some ⟨w.heap.size + 1, 0, none⟩) 1 1] 46))
    (Lo (((w.alloc (.cells #[.int .u8 97] 5 (1, 2))).alloc (.cells #[.int .u64 2, .slice (some ⟨w.heap.size, 0, none⟩) 1 1, .slice none 0 0] 46)).alloc (.cells #[.int .u64 1, .slice none 0 0, .slice (some ⟨w.heap.size + 1, 0, none⟩) 1 1] 46))) (.slice (some ⟨w.heap.size + 2, 0, none⟩) 1 1) exF := by
  have h1 := Blk.new (w.alloc (.cells #[.int .u8 97] 5 (1, 2))) 46 #[.int .u64 2, .slice (some ⟨w.heap.size, 0, none⟩) 1 1, .slice none 0 0]
  have h2 := Blk.new ((w.alloc (.cells #[.int .u8 97] 5 (1, 2))).alloc (.cells #[.int .u64 2, .slice (some ⟨w.heap.size, 0, none⟩) 1 1, .slice none 0 0] 46)) 46 #[.int .u64 1, .slice none 0 0, .slice (some ⟨w.heap.size + 1, 0, none⟩) 1 1]
  simp only [World.size_alloc] at h1 h2
  have hd : DataI (((w.alloc (.cells #[.int .u8 97] 5 (1, 2))).alloc (.cells #[.int .u64 2, .slice (some ⟨w.heap.size, 0, none⟩) 1 1, .slice none 0 0] 46)).alloc (.cells #[.int .u64 1, .slice none 0 0, .slice (some ⟨w.heap.size + 1, 0, none⟩) 1 1] 46)) (fun g => g < w.heap.size + 3) (.slice (some ⟨w.heap.size, 0, none⟩) 1 1) [97] :=
    ⟨w.heap.size, ((litm_rd (1, 2) [97] (by simp) _ rfl 1 rfl w).alloc _).alloc _, fun _ => by omega⟩
  have hS : ∀ g, g < w.heap.size + 3 → Lo (((w.alloc (.cells #[.int .u8 97] 5 (1, 2))).alloc (.cells #[.int .u64 2, .slice (some ⟨w.heap.size, 0, none⟩) 1 1, .slice none 0 0] 46)).alloc (.cells #[.int .u64 1, .slice none 0 0, .slice (some ⟨w.heap.size + 1, 0, none⟩) 1 1] 46)) g := fun g hg => by
    unfold Lo; simp only [World.size_alloc]; omega
  refine FV.kept stays_I (S := fun g => g < w.heap.size + 3) ?_ (fun _ _ => rfl) hS
  refine FV.one (b := w.heap.size + 2) h2 (by omega) (by decide) ⟨0, Rd.nil _ _, fun h => absurd h (by simp)⟩ ?_
  exact FV.one (b := w.heap.size + 1) (h1.alloc _) (by omega) (by decide) hd (FV.nil _ _)

theorem lit_G (w : World) : FV DataI ((w.alloc (.cells #[.int .u8 97] 5 (1, 2))).alloc (.cells #[.int .u64 1, .slice (some ⟨w.heap.size, 0, none⟩) 1 1, .slice none 0 0] 46))
    (Lo ((w.alloc (.cells #[.int .u8 97] 5 (1, 2))).alloc (.cells #[.int .u64 1, .slice (some ⟨w.heap.size, 0, none⟩) 1 1, .slice none 0 0] 46))) (.slice (some ⟨w.heap.size + 1, 0, none⟩) 1 1) exG := by
  have h1 := Blk.new (w.alloc (.cells #[.int .u8 97] 5 (1, 2))) 46 #[.int .u64 1, .slice (some ⟨w.heap.size, 0, none⟩) 1 1, .slice none 0 0]
  simp only [World.size_alloc] at h1
  have hd : DataI ((w.alloc (.cells #[.int .u8 97] 5 (1, 2))).alloc (.cells #[.int .u64 1, .slice (some ⟨w.heap.size, 0, none⟩) 1 1, .slice none 0 0] 46)) (fun g => g < w.heap.size + 2) (.slice (some ⟨w.heap.size, 0, none⟩) 1 1) [97] :=
    ⟨w.heap.size, (litm_rd (1, 2) [97] (by simp) _ rfl 1 rfl w).alloc _, fun _ => by omega⟩
  refine FV.kept stays_I (S := fun g => g < w.heap.size + 2) ?_ (fun _ _ => rfl) (fun g hg => by unfold Lo; simp only [World.size_alloc]; omega)
  exact FV.one (b := w.heap.size + 1) h1 (by omega) (by decide) hd (FV.nil _ _)

set_option maxRecDepth 100000 in
set_option maxHeartbeats 4000000 in
theorem awake3_any (C : TlvC) (w : World) : Calls Try.prog 8 #[] w fun r w' => r = .returned (.bool true) ∧ Below w.heap.size w w' := by
  obtain ⟨w0, hw0⟩ : ∃ w0, w0 = ((w.alloc (.cells #[.int .u8 97] 5 (1, 2))).alloc (.cells #[.int .u64 2, .slice (some ⟨w.heap.size, 0, none⟩) 1 1, .slice none 0 0] 46)).alloc (.cells #[.int .u64 1, .slice none 0 0, .slice (some ⟨w.heap.size + 1, 0, none⟩) 1 1] 46) := ⟨_, rfl⟩
  have hF := lit_F w
  rw [← hw0] at hF
  have hB0 : Below w.heap.size w w0 := by rw [hw0]; exact (((Below.refl _ _).alloc (Nat.le_refl _) _).alloc (by simp) _).alloc (by simp only [World.size_alloc]; omega) _
  have HW0 := Lib.hid hw0
  have kc := fun (w : World) (C : Array Value) (n c : Nat) => Lib.run_convert_bytes_const (P := Try.prog) w 27 5 C n c Try.underlying27 Try.underlying5
  have HC := Lib.hid C
  clear hw0 C
  go_enter Try.func8, Try.ntmps8
  go_wp2_with fail
  rw [← HW0.out]
  refine (HC.out.put exF w0 _ hF (by decide)).mono ?_
  rintro r w1 ⟨v1, rfl, hv1, hb1⟩
  rw [if_pos exF_ok, exF_all] at hv1
  rw [if_pos exF_ok]
  obtain ⟨d1, -, -, hr1⟩ := hv1.rd (by simp)
  have hF1 := FV.below stays_I hF hb1
  have hB1 := hB0.trans (hb1.mono hB0.size)
  clear hF hB0 hb1 hv1
  go_wp2_with fail
  refine (get3_at HC.out [1, 3, 2, 1, 97] _ _ _ _ (lit3_rd _ (by simp) #[.int .u8 1, .int .u8 3, .int .u8 2, .int .u8 1, .int .u8 97] rfl 5 rfl w1) (by simp) ex_got).mono ?_
  rintro r w2 ⟨v2, rfl, hv2, hb2⟩
  have hA2 : Below w1.heap.size w1 w2 := ((Below.refl _ _).alloc (Nat.le_refl _) _).trans (hb2.mono (by simp))
  obtain ⟨b2, o2, c2, kv2, rfl, hc2, hS2, hcell2, hk2⟩ := (FV.lo stays_I hv2).item
  obtain ⟨b3, o3, c3, kv3, rfl, hc3, -, -, -⟩ := hk2.item
  have hF2 := FV.below stays_I hF1 hA2
  have hr2 := hr1.below' hA2
  have hB2 := hB1.trans (hA2.mono hB1.size)
  have hSb2 : b2 < w2.heap.size := hS2
  clear hF1 hb2 hv2 hr1 hB1 hA2 hS2
  go_wp2_with fail
  refine (get3_at HC.out [2, 5, 1] _ _ _ _ (lit3_rd _ (by simp) #[.int .u8 2, .int .u8 5, .int .u8 1] rfl 3 rfl w2) (by simp) ex_short).mono ?_
  rintro r w4 ⟨v4, rfl, hv4, hb4⟩
  have hA4 : Below w2.heap.size w2 w4 := ((Below.refl _ _).alloc (Nat.le_refl _) _).trans (hb4.mono (by simp))
  obtain ⟨A4, c4, rfl⟩ := hv4.shape
  have hF4 := FV.below stays_I hF2 hA4
  have hr4 := hr2.below' hA4
  have hB4 := hB2.trans (hA4.mono hB2.size)
  have hcell4 : w4.cell? ⟨b2, o2 + 2, none⟩ = some (.slice (some ⟨b3, o3, none⟩) 1 c3) := (hA4.cell (p := ⟨b2, o2 + 2, none⟩) hSb2).trans hcell2
  have hst4 : (convert 27 9 v1).run Try.prog w4 = .ok (.string ⟨#[1, 3, 2, 1, 97]⟩) w4 := str_of hr4
  clear hF2 hb4 hv4 hr2 hB2 hA4 hcell2 hr4
  go_wp2_with fail
  refine (HC.out.check exF w4 _ hF4 (by decide)).mono ?_
  rintro r w5 ⟨rfl, hb5⟩
  rw [exF_ok]
  have hF5 := FV.below stays_I hF4 hb5
  have hB5 := hB4.trans (hb5.mono hB4.size)
  clear hF4 hb5 hB4 hcell4
  go_wp2_with fail
  refine (HC.out.size exF w5 _ hF5 (by decide) (by decide)).mono ?_
  rintro r w6 ⟨rfl, hb6⟩
  rw [exF_all]
  have hB6 := hB5.trans (hb6.mono hB5.size)
  have hG := lit_G w6
  clear hF5 hb6 hB5 hst4
  go_wp2_with fail
  refine (HC.out.check exG _ _ hG (by decide)).mono ?_
  rintro r w7 ⟨rfl, hb7⟩
  rw [exG_ok]
  have hB7 : Below w.heap.size w w7 := hB6.trans (((((Below.refl w6.heap.size w6).alloc (Nat.le_refl _) _).alloc (by simp) _).trans (hb7.mono (by simp only [World.size_alloc]; omega))).mono hB6.size)
  clear hb7 hG hB6
  go_wp2
  go_ret
  exact ⟨rfl, hB7⟩

end Go.Proofs.Ytdpaijechogmlaa
