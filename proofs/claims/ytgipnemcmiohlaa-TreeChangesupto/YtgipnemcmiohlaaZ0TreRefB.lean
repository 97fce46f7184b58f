/- What the laws of package tree want of TreRefB. -/
import Derived.Test.YtgipnemcmiohlaaZ0TreRefA
namespace Go.Proofs.Ytgipnemcmiohlaa
open Go.RowKit
set_option linter.unusedSimpArgs false
set_option linter.unusedVariables false
set_option maxRecDepth 100000 in
set_option maxHeartbeats 2000000 in
theorem rsizef_any (f : NdF) : ∀ (a : NdD) (A : Option Addr) (c : Nat) (w : World), RowT w.heap.size w (.slice A f.len c) f → f.size ≤ 1000000 →
    Calls Try.prog 14 #[.agg #[.string (txt a.name), .string (txt a.key), .int .i64 a.kind, .int .u64 (a.num : Int), .string (txt a.text), .slice A f.len c]] w (Ans9 (.int .i64 ((f.size + 1 : Nat) : Int)) w) := by
  refine Fr.byKids (P := fun f => ∀ (a : NdD) (A : Option Addr) (c : Nat) (w : World), RowT w.heap.size w (.slice A f.len c) f → f.size ≤ 1000000 →
    Calls Try.prog 14 #[.agg #[.string (txt a.name), .string (txt a.key), .int .i64 a.kind, .int .u64 (a.num : Int), .string (txt a.text), .slice A f.len c]] w (Ans9 (.int .i64 ((f.size + 1 : Nat) : Int)) w)) ?_ f
  clear f
  intro f hkids a A c w hk hsz
  have hB : Below w.heap.size w (w.alloc (.cells #[.string (txt a.name), .string (txt a.key), .int .i64 a.kind, .int .u64 (a.num : Int), .string (txt a.text), .slice A f.len c] 27)) := (Below.refl _ _).alloc (Nat.le_refl _) _
  have HB0 := Lib.hid hB
  have HI := Lib.hid hkids
  have HK : Hid (RowT w.heap.size w (.slice A f.len c) f) := Lib.hid hk
  have HZ : Hid (f.size ≤ 1000000) := Lib.hid hsz
  clear hkids hk hsz hB
  go_enter Try.func14, Try.ntmps14
  go_wp2
  go_loopw [3, 4] (fun m i wr => ∃ (j s : Nat), j ≤ f.len ∧ i = .int .i64 (j : Int) ∧ m = .int .i64 (s : Int) ∧ Hid (s = (Fr.take j f).size + 1) ∧ Blk wr w.heap.size 27 #[.string (txt a.name), .string (txt a.key), .int .i64 a.kind, .int .u64 (a.num : Int), .string (txt a.text), .slice A f.len c] ∧ Below w.heap.size w wr) (fun _ i _ => f.len - (intOf i).toNat)
  case atStart => exact ⟨0, 1, Nat.zero_le _, rfl, rfl, Lib.hid (by simp [Fr.take, Fr.size]), Blk.new _ _ _, HB0.out⟩
  case round =>
    obtain ⟨j, s, hj, rfl, rfl, HS, hP, hB⟩ := hrel
    have p5 : wr.cell? ⟨w.heap.size, 5, none⟩ = some (.slice A f.len c) := (hP.cell 5).trans rfl
    have HBr := Lib.hid hB
    by_cases hlt : j < f.len
    · obtain ⟨a1, q, hg⟩ := Fr.get_some hlt
      obtain ⟨b, o, A', c', rfl, -, -, hbl, hrow, hcl⟩ := HK.out.at hg
      have hcell : ∀ i u, (ndC a1 (.slice A' q.len c'))[i]? = some u → wr.cell? ⟨b, o + j * 6 + i, none⟩ = some u := fun i u hu => (hB.cell (p := ⟨b, o + j * 6 + i, none⟩) hbl).trans (hcl i u hu)
      have q0 : wr.cell? ⟨b, o + j * 6, none⟩ = _ := hcell 0 _ rfl
      have q1 : wr.cell? ⟨b, o + j * 6 + 1, none⟩ = _ := hcell 1 _ rfl
      have q2 : wr.cell? ⟨b, o + j * 6 + 2, none⟩ = _ := hcell 2 _ rfl
      have q3 : wr.cell? ⟨b, o + j * 6 + 3, none⟩ = _ := hcell 3 _ rfl
      have q4 : wr.cell? ⟨b, o + j * 6 + 4, none⟩ = _ := hcell 4 _ rfl
      have q5 : wr.cell? ⟨b, o + j * 6 + 5, none⟩ = _ := hcell 5 _ rfl
      have i1 : (0 : Int) ≤ (j : Int) := by omega
      have i2 : (j : Int) < (f.len : Int) := by omega
      have i3 : (f.len : Int) ≤ 1000000 := by have := HZ.out; have := Fr.len_size f; omega
      have hts : (Fr.take (j + 1) f).size = (Fr.take j f).size + (q.size + 1) := by
        rw [(Fr.get_drop hg).2, Fr.size_app]; simp [Fr.size]
      have hle : (Fr.take (j + 1) f).size ≤ f.size := by
        have := congrArg Fr.size (Fr.take_app_drop (j + 1) f); rw [Fr.size_app] at this; omega
      obtain ⟨z, hz⟩ : ∃ z, z = q.size + 1 := ⟨_, rfl⟩
      have HI1 : Hid (Calls Try.prog 14 #[.agg #[.string (txt a1.name), .string (txt a1.key), .int .i64 a1.kind, .int .u64 (a1.num : Int), .string (txt a1.text), .slice A' q.len c']] wr (Ans9 (.int .i64 (z : Int)) wr)) := Lib.hid (by
        rw [hz]; exact HI.out j a1 q hg a1 A' c' wr (hrow.under hB (Nat.le_refl _) hB.size) (by have := HZ.out; omega))
      have i4 : (0 : Int) ≤ (s : Int) := by omega
      have i5 : (s : Int) ≤ 1000001 := by have := HS.out; have := HZ.out; omega
      have i6 : (0 : Int) ≤ (z : Int) := by omega
      have i7 : (z : Int) ≤ 1000001 := by have := HZ.out; omega
      have HS2 : Hid (s + z = (Fr.take (j + 1) f).size + 1) := Lib.hid (by have := HS.out; omega)
      have HP := Lib.hid hP
      clear hcl hg hrow hcell hts hle hz hP hB hbl
      go_wp2_with fail
      refine HI1.out.mono ?_
      rintro r w2 ⟨rfl, hb⟩
      have HP2 := Lib.hid (HP.out.below hb HP.out.lt)
      have HB2 := Lib.hid (HBr.out.trans (hb.mono HBr.out.size))
      clear hb
      go_wp2
      go_roundw
      case rel => exact ⟨j + 1, s + z, by omega, by go_num, by go_num, HS2, HP2.out, HB2.out⟩
      case measure => simp [intOf]; omega
    · have i2 : ¬ (j : Int) < (f.len : Int) := by omega
      have HF : Hid (s = f.size + 1) := Lib.hid (by have := HS.out; rw [show j = f.len by omega, Fr.take_all] at this; exact this)
      clear hP hB
      go_wp2
      go_ret
      exact ⟨by rw [HF.out]; rfl, HBr.out⟩
end Go.Proofs.Ytgipnemcmiohlaa

