/- SpvFnG -/
import Derived.Test.YtikmilcdibldhaaDoorAM0
import Derived.Test.YtikmilcdibldhaaDoorAM6
import Derived.Test.YtikmilcdibldhaaDoorAM22
set_option linter.unusedSimpArgs false
set_option linter.unusedVariables false
namespace Go.Proofs.YtikmilcdibldhaaDoor
open Go.RowKit
theorem chd_step {W0 wr w1 : World} {base B : Nat} {F F' F1 : List Nat} (hK : SKeeps base (B :: F) W0 wr) (hF : ∀ g, g ∈ F' → g ∈ F ∨ W0.heap.size ≤ g) (hK1 : SKeeps base (B :: F') wr w1) (hF1 : ∀ g, g ∈ F1 → g ∈ F' ∨ wr.heap.size ≤ g) :
  SKeeps base (B :: F) W0 w1 ∧ ∀ g, g ∈ F1 → g ∈ F ∨ W0.heap.size ≤ g := by
 refine ⟨hK.trans hK1 (fun g hg => ?_), fun g hg => ?_⟩
 ·rcases List.mem_cons.1 hg with rfl | hg
  ·exact .inl (by simp)
  ·rcases hF g hg with h | h
   ·exact .inl (by simp [h])
   ·exact .inr h
 ·rcases hF1 g hg with h | h
  ·exact hF g h
  ·exact .inr (Nat.le_trans hK.1.size h)
theorem drop_zero (f : ChF) : Fr.drop 0 f = f := by cases f <;> rfl
theorem drop_cons {f : ChF} {j : Nat} {d : ChD} {k : ChF} (h : f.get? j = some (d, k)) : Fr.drop j f = .cons d k (Fr.drop (j + 1) f) := (Fr.get_drop h).1
set_option maxRecDepth 100000 in
set_option maxHeartbeats 4000000 in
theorem changed_any (f : ChF) : ChdC f := by
 refine Fr.byKids (P := ChdC) ?_ f
 clear f
 intro f hkids base R F cs x v w own nd rlt hbase hch hfl hok
 obtain ⟨A, c, rfl⟩ : ∃ A c, v = .slice A f.len c := by obtain ⟨A, c, e, _⟩ := hch; exact ⟨A, c, e⟩
 obtain ⟨Bn, m, A0, c0, dn, rfl, -, -, -⟩ := own.spn.shape
 obtain ⟨W0, hW0⟩ : ∃ W0, W0 = (w.alloc (.cells #[.string (txt x.1.name), .int .i64 (x.1.kind : Int), .int .i64 (x.1.typ : Int), .int .u64 (x.1.low : Int), .int .u64 (x.1.high : Int), .slice Bn x.1.names.length m, .bool x.1.must, .int .i64 (x.1.most : Int), .slice A0 x.2.len c0] 34)).alloc (.cells #[.string ⟨#[]⟩, .int .i64 0, .int .i64 0, .int .u64 0, .int .u64 0, .slice none 0 0, .bool false, .int .i64 0, .slice none 0 0] 34) := ⟨_, rfl⟩
 have hB0 : Below w.heap.size w W0 := by rw [hW0]; exact ((Below.refl _ _).alloc (Nat.le_refl _) _).alloc (by simp) _
 have hsz : W0.heap.size = w.heap.size + 2 := by rw [hW0]; simp
 have hbox : Blk W0 w.heap.size 34 #[.string (txt x.1.name), .int .i64 (x.1.kind : Int), .int .i64 (x.1.typ : Int), .int .u64 (x.1.low : Int), .int .u64 (x.1.high : Int), .slice Bn x.1.names.length m, .bool x.1.must, .int .i64 (x.1.most : Int), .slice A0 x.2.len c0] := by
  rw [hW0]; exact (Blk.new w _ _).alloc _
 have hres : Blk W0 (w.heap.size + 1) 34 #[.string ⟨#[]⟩, .int .i64 0, .int .i64 0, .int .u64 0, .int .u64 0, .slice none 0 0, .bool false, .int .i64 0, .slice none 0 0] := by
  rw [hW0]; exact Blk.new_at (by simp) _ _
 have hFl := own.lt
 have hS0 : Sit W0 base R w.heap.size F _ x := ⟨hbox, own.keep (fun g hg => hB0.block g (hFl g hg)) (fun g hg => hB0.block g (rlt g hg).1) (fun _ h => h) (Nat.le_refl _),
  List.nodup_cons.2 ⟨fun h => by have := hFl _ h; omega, nd⟩, fun g hg => ⟨by have := (rlt g hg).1; omega, by have := (rlt g hg).1; omega, (rlt g hg).2⟩, hbase⟩
 have HS0 := Lib.hid hS0
 have HB0 := Lib.hid hB0
 have HSZ := Lib.hid hsz
 have HRES := Lib.hid hres
 have HFL := Lib.hid hFl
 have HRL := Lib.hid rlt
 have HCH := Lib.hid hch
 have HOK := Lib.hid hok
 have HK := Lib.hid hkids
 have HW0 := Lib.hid hW0
 have HBA := Lib.hid hbase
 clear own nd rlt hbase hch hok hB0 hsz hbox hres hFl hS0 hkids hW0
 go_enter Tryd.func53, Tryd.ntmps53
 go_wp2
 go_loopw [9] (fun i wr => ∃ (j : Nat) (cs' : List Value) (F' : List Nat) (x' : Sp), j ≤ f.len ∧ i = .int .i64 (j : Int) ∧ Hid (Sit wr base R w.heap.size F' cs' x') ∧ Hid (runC (Fr.drop j f) x' = runC f x) ∧ Hid (okC (Fr.drop j f) x' = true) ∧ Hid (SKeeps base (w.heap.size :: F) W0 wr) ∧ Hid (∀ g, g ∈ F' → g ∈ F ∨ W0.heap.size ≤ g)) (fun i _ => f.len - (intOf i).toNat)
 case atStart =>
  have s0 := HS0.out
  rw [HW0.out] at s0
  have s1 : SKeeps base (w.heap.size :: F) W0 W0 := SKeeps.refl _ _ _
  rw [HW0.out] at s1
  have s2 := HOK.out
  rw [← drop_zero f] at s2
  exact ⟨0, [.string (txt x.1.name), .int .i64 (x.1.kind : Int), .int .i64 (x.1.typ : Int), .int .u64 (x.1.low : Int), .int .u64 (x.1.high : Int), .slice Bn x.1.names.length m, .bool x.1.must, .int .i64 (x.1.most : Int), .slice A0 x.2.len c0], F, x, Nat.zero_le _, rfl, Lib.hid s0, Lib.hid (by rw [drop_zero]), Lib.hid s2, Lib.hid (by rw [HW0.out]; exact s1), Lib.hid (fun g hg => .inl hg)⟩
 case round =>
  obtain ⟨j, cs', F', x', hj, rfl, HS, HR, HO, HKP, HF⟩ := hrel
  have HRK : Hid (∀ g, R g → wr.heap[g]? = w.heap[g]?) := Lib.hid (fun g hg => by
   obtain ⟨r1, r2⟩ := HRL.out g hg
   have := HSZ.out
   refine (HKP.out.2 g (by omega) (fun h => ?_)).trans (HB0.out.block g r1)
   rcases List.mem_cons.1 h with h | h
   ·omega
   ·exact r2 h)
  by_cases hlt : j < f.len
  ·obtain ⟨d, k, hg⟩ := Fr.get_some hlt
   obtain ⟨b, o, c', fv, e, -, -, hcell, hfv⟩ := (HCH.out.keep (w' := wr) HRK.out (fun _ h => h)).at hg
   injection e with e1 e2 e3
   subst e1 e3
   have hd := drop_cons hg
   have i1 : (0 : Int) ≤ (j : Int) := by omega
   have i2 : (j : Int) < (f.len : Int) := by omega
   have HRR : Hid (runC (Fr.drop (j + 1) f) (stepC d k x') = runC f x) := Lib.hid (by have := HR.out; rw [hd] at this; exact this)
   have HOO : Hid (okC (.cons d k (Fr.drop (j + 1) f)) x' = true) := Lib.hid (by have := HO.out; rw [hd] at this; exact this)
   have HG := Lib.hid hg
   clear hd hg e2
   rcases hfv with ⟨k0, p, rfl, g2, g3⟩ | ⟨k1, p, q, lc, rfl, g2, g3, g4, g5, g6, g7⟩ | ⟨n0, n1, p, q, A2, c2, rfl, g2, g3, g4, g5, g6⟩
   ·have HC : Hid (Calls Tryd.prog 67 #[.pointer (some ⟨w.heap.size, 0, none⟩), .pointer (some ⟨p, 0, none⟩)] wr (ChgP base R w.heap.size F' (stepC d k x') wr)) := Lib.hid (by
     rw [stepC_zero k0]; exact named1_any d.name base w.heap.size p R F' cs' x' wr HS.out g3)
    clear k0 g2 g3
    go_wp2_with fail
    refine HC.out.mono ?_
    rintro r w1 ⟨rfl, cs1, F1, hS1, hK1, hF1⟩
    have HS1 := Lib.hid hS1
    have HST := Lib.hid (chd_step HKP.out HF.out hK1 hF1)
    clear hS1 hK1 hF1 hcell
    go_wp2
    go_roundw
    case rel => exact ⟨j + 1, cs1, F1, stepC d k x', by omega, by go_num, HS1, HRR, Lib.hid (okC_cons HOO.out), Lib.hid HST.out.1, Lib.hid HST.out.2⟩
    case measure => simp [intOf]; omega
   ·have HC : Hid (Calls Tryd.prog 65 #[.pointer (some ⟨w.heap.size, 0, none⟩), .pointer (some ⟨p, 0, none⟩), .pointer (some ⟨q, 0, none⟩)] wr (ChgP base R w.heap.size F' (stepC d k x') wr)) := Lib.hid (by
     obtain ⟨i, q1, q2, q3⟩ := okC_one HOO.out k1
     rw [q3]; exact after1_any d.name d.kid base w.heap.size p q R F' cs' lc x' wr HS.out g4 g5 g6 g7 g2 g3 (fun g hg => (HS.out.rlt g hg).1) i q1 q2 (okC_few HOO.out))
    clear k1 g2 g3 g4 g5 g6 g7
    go_wp2_with fail
    refine HC.out.mono ?_
    rintro r w1 ⟨rfl, cs1, F1, hS1, hK1, hF1⟩
    have HS1 := Lib.hid hS1
    have HST := Lib.hid (chd_step HKP.out HF.out hK1 hF1)
    clear hS1 hK1 hF1 hcell
    go_wp2
    go_roundw
    case rel => exact ⟨j + 1, cs1, F1, stepC d k x', by omega, by go_num, HS1, HRR, Lib.hid (okC_cons HOO.out), Lib.hid HST.out.1, Lib.hid HST.out.2⟩
    case measure => simp [intOf]; omega
   ·have HC : Hid (Calls Tryd.prog 64 #[.pointer (some ⟨w.heap.size, 0, none⟩), .pointer (some ⟨p, 0, none⟩), .pointer (some ⟨q, 0, none⟩)] wr (ChgP base R w.heap.size F' (stepC d k x') wr)) := Lib.hid (by
     obtain ⟨i, y, q1, q2, q3, q4⟩ := okC_two HOO.out n0 n1
     rw [q4]; exact in1_any k (HK.out _ _ _ HG.out) d.name base w.heap.size p q R F' cs' x' y A2 c2 wr HS.out g4 g5 g6 g2 g3 i q1 q2 q3.1 q3.2 (okC_few HOO.out))
    clear n0 n1 g2 g3 g4 g5 g6
    go_wp2_with fail
    refine HC.out.mono ?_
    rintro r w1 ⟨rfl, cs1, F1, hS1, hK1, hF1⟩
    have HS1 := Lib.hid hS1
    have HST := Lib.hid (chd_step HKP.out HF.out hK1 hF1)
    clear hS1 hK1 hF1 hcell
    go_wp2
    go_roundw
    case rel => exact ⟨j + 1, cs1, F1, stepC d k x', by omega, by go_num, HS1, HRR, Lib.hid (okC_cons HOO.out), Lib.hid HST.out.1, Lib.hid HST.out.2⟩
    case measure => simp [intOf]; omega
  ·have i2 : ¬ (j : Int) < (f.len : Int) := by omega
   have HX : Hid (x' = runC f x) := Lib.hid (by
    have h := HR.out
    rw [show j = f.len by omega, Fr.drop_all] at h
    exact h)
   obtain ⟨B1, m1, A1, c1, d1, rfl, -, -, -⟩ := HS.out.own.spn.shape
   have HRS : Hid (Blk wr (w.heap.size + 1) 34 #[.string ⟨#[]⟩, .int .i64 0, .int .i64 0, .int .u64 0, .int .u64 0, .slice none 0 0, .bool false, .int .i64 0, .slice none 0 0]) := Lib.hid (HRES.out.same (HKP.out.2 _ (by have := HSZ.out; omega) (fun h => by
    rcases List.mem_cons.1 h with h | h
    ·omega
    ·have := HFL.out _ h; omega)))
   have q0 : wr.cell? ⟨w.heap.size, 0, none⟩ = some (.string (txt x'.1.name)) := HS.out.box.cell 0
   have q1 : wr.cell? ⟨w.heap.size, 1, none⟩ = some (.int .i64 (x'.1.kind : Int)) := HS.out.box.cell 1
   have q2 : wr.cell? ⟨w.heap.size, 2, none⟩ = some (.int .i64 (x'.1.typ : Int)) := HS.out.box.cell 2
   have q3 : wr.cell? ⟨w.heap.size, 3, none⟩ = some (.int .u64 (x'.1.low : Int)) := HS.out.box.cell 3
   have q4 : wr.cell? ⟨w.heap.size, 4, none⟩ = some (.int .u64 (x'.1.high : Int)) := HS.out.box.cell 4
   have q5 : wr.cell? ⟨w.heap.size, 5, none⟩ = some (.slice B1 x'.1.names.length m1) := HS.out.box.cell 5
   have q6 : wr.cell? ⟨w.heap.size, 6, none⟩ = some (.bool x'.1.must) := HS.out.box.cell 6
   have q7 : wr.cell? ⟨w.heap.size, 7, none⟩ = some (.int .i64 (x'.1.most : Int)) := HS.out.box.cell 7
   have q8 : wr.cell? ⟨w.heap.size, 8, none⟩ = some (.slice A1 x'.2.len c1) := HS.out.box.cell 8
   have z0 := (HRS.out.cell 0).trans rfl
   have z1 := (HRS.out.cell 1).trans rfl
   have z2 := (HRS.out.cell 2).trans rfl
   have z3 := (HRS.out.cell 3).trans rfl
   have z4 := (HRS.out.cell 4).trans rfl
   have z5 := (HRS.out.cell 5).trans rfl
   have z6 := (HRS.out.cell 6).trans rfl
   have z7 := (HRS.out.cell 7).trans rfl
   have z8 := (HRS.out.cell 8).trans rfl
   have f0 := HRS.out.frozen 0
   have f1 := HRS.out.frozen 1
   have f2 := HRS.out.frozen 2
   have f3 := HRS.out.frozen 3
   have f4 := HRS.out.frozen 4
   have f5 := HRS.out.frozen 5
   have f6 := HRS.out.frozen 6
   have f7 := HRS.out.frozen 7
   have f8 := HRS.out.frozen 8
   have RE : Hid (Blk (set9 wr (w.heap.size + 1) (.string (txt x'.1.name)) (.int .i64 (x'.1.kind : Int)) (.int .i64 (x'.1.typ : Int)) (.int .u64 (x'.1.low : Int)) (.int .u64 (x'.1.high : Int)) (.slice B1 x'.1.names.length m1) (.bool x'.1.must) (.int .i64 (x'.1.most : Int)) (.slice A1 x'.2.len c1)) (w.heap.size + 1) 34 #[.string (txt x'.1.name), .int .i64 (x'.1.kind : Int), .int .i64 (x'.1.typ : Int), .int .u64 (x'.1.low : Int), .int .u64 (x'.1.high : Int), .slice B1 x'.1.names.length m1, .bool x'.1.must, .int .i64 (x'.1.most : Int), .slice A1 x'.2.len c1]) := Lib.hid (HRS.out.set9 _ _ _ _ _ _ _ _ _)
   have HEND : Hid (ChdP base R F (runC f x) w (.returned (.agg #[.string (txt x'.1.name), .int .i64 (x'.1.kind : Int), .int .i64 (x'.1.typ : Int), .int .u64 (x'.1.low : Int), .int .u64 (x'.1.high : Int), .slice B1 x'.1.names.length m1, .bool x'.1.must, .int .i64 (x'.1.most : Int), .slice A1 x'.2.len c1])) (set9 wr (w.heap.size + 1) (.string (txt x'.1.name)) (.int .i64 (x'.1.kind : Int)) (.int .i64 (x'.1.typ : Int)) (.int .u64 (x'.1.low : Int)) (.int .u64 (x'.1.high : Int)) (.slice B1 x'.1.names.length m1) (.bool x'.1.must) (.int .i64 (x'.1.most : Int)) (.slice A1 x'.2.len c1))) := Lib.hid (by
    have hs := HSZ.out
    have hb := HBA.out
    have hX := HX.out
    subst hX
    refine ⟨_, F', rfl, HS.out.own.keep (fun g hg => set9_other (fun e => ?_)) (fun g hg => set9_other (fun e => ?_)) (fun _ h => h) (Nat.le_refl _), (List.nodup_cons.1 HS.out.nd).2, fun g hg => ?_, ⟨?_, fun g hg hn => ?_⟩⟩
    ·rcases HF.out g hg with h | h
     ·have := HFL.out g h; omega
     ·omega
    ·have := (HRL.out g hg).1; omega
    ·rcases HF.out g hg with h | h
     ·exact .inl h
     ·exact .inr (by omega)
    ·exact ((HB0.out.mono hb).trans HKP.out.1).trans (set9_below (by omega))
    ·refine (set9_other (by omega)).trans ((HKP.out.2 g (by omega) (fun h => ?_)).trans (HB0.out.block g hg))
     rcases List.mem_cons.1 h with h | h
     ·omega
     ·exact hn h)
   clear HRS
   go_wp2
   refine bodyPost_ret (results_cell_row rfl _ _ (w.heap.size + 1) 34 _ (0, 0) _ rfl RE.out Tryd.underlying34 rfl (by kernel_rfl)) rfl ?_
   exact HEND.out
end Go.Proofs.YtikmilcdibldhaaDoor
