/- EdvD TlvFnB -/
import Derived.Test.YtleidkpdpabkpaaGreatDoorAM23
set_option linter.unusedSimpArgs false
set_option linter.unusedVariables false
set_option maxRecDepth 100000
set_option maxHeartbeats 8000000
namespace Go.Proofs.YtleidkpdpabkpaaGreatDoor
open Go.RowKit
section
attribute [local go_sem] Oper.semAt_some
def Si18 (w : World) (a : NdD) (f : NdF) (A : Option Addr) (c : Nat) (u : Value) (F : Fo) (W : World) : Prop :=
 Blk W w.heap.size 42 (cN a (.slice A f.len c)) ∧ Blk W (w.heap.size + 1) 58 #[.int .u64 0, .slice none 0 0, .slice none 0 0] ∧ OwnF DataI 58 W (w.heap.size + 2) u F ∧ Below w.heap.size w W ∧ w.heap.size + 2 ≤ W.heap.size
theorem Si18.go {w : World} {a : NdD} {f : NdF} {A : Option Addr} {c : Nat} {u : Value} {F : Fo} {W W' : World} (h : Si18 w a f A c u F W) (hb : Below W.heap.size W W') : Si18 w a f A c u F W' :=
 ⟨h.1.below hb h.1.lt, h.2.1.below hb h.2.1.lt, h.2.2.1.below stays_I hb, h.2.2.2.1.trans (hb.mono h.2.2.2.1.size), Nat.le_trans h.2.2.2.2 hb.size⟩
theorem Si18.app {w : World} {a : NdD} {f : NdF} {A : Option Addr} {c : Nat} {u v' : Value} {F G : Fo} {W w' : World} (h : Si18 w a f A c u F W) (hap : AppF DataI 58 W (w.heap.size + 2) u G v' w') : Si18 w a f A c v' G w' := by
 obtain ⟨h1, h2, h3, h4, h5⟩ := h
 have n1 : ∀ g, g < w.heap.size + 2 → some g ≠ u.ownBlock := fun g hg e => by have := (h3.lt g e.symm).1; omega
 have hb := hap.below h3 h5
 exact ⟨h1.grown hap.2.1 (n1 _ (by omega)), h2.grown hap.2.1 (n1 _ (by omega)), hap.1, h4.trans (hb.mono (by omega)), Nat.le_trans h5 hap.2.1.size⟩
def ItmI18 (t : Nat) (F : Fo) (w : World) (r : Ending) (w' : World) : Prop := ∃ A c, r = .returned (.agg #[.int .u64 (t : Int), .slice none 0 0, .slice A F.len c]) ∧ FV DataI w' (MineI w.heap.size w') (.slice A F.len c) F ∧ Below w.heap.size w w'
def ItemI18 (f : NdF) : Prop := ∀ (t : Nat) (a : NdD) (A : Option Addr) (c : Nat) (w : World), t < 18446744073709551616 → RowT w.heap.size w (.slice A f.len c) f → f.size ≤ 1000000 → OkD a → OkF f → okN18 (a, f) = true →
  Calls Tryz.prog 43 #[.int .u64 (t : Int), .agg (cN a (.slice A f.len c))] w (ItmI18 t (inI18 leastB a (itmF18 leastB f)) w)
theorem item_row18 (f : NdF) (hkids : ∀ n a k, f.get? n = some (a, k) → ItemI18 k) : ItemI18 f := by
 intro t a A c w ht hrow hsz hoa hof hok
 have h0 : Below w.heap.size w ((w.alloc (.cells (cN a (.slice A f.len c)) 42)).alloc (.cells #[.int .u64 0, .slice none 0 0, .slice none 0 0] 58)) := bAl.alloc (by simp) _
 have hz : ((w.alloc (.cells (cN a (.slice A f.len c)) 42)).alloc (.cells #[.int .u64 0, .slice none 0 0, .slice none 0 0] 58)).heap.size = w.heap.size + 1 + 1 := by simp
 have hb1 : Blk ((w.alloc (.cells (cN a (.slice A f.len c)) 42)).alloc (.cells #[.int .u64 0, .slice none 0 0, .slice none 0 0] 58)) w.heap.size 42 (cN a (.slice A f.len c)) := (Blk.new _ _ _).alloc _
 have hb2 : Blk ((w.alloc (.cells (cN a (.slice A f.len c)) 42)).alloc (.cells #[.int .u64 0, .slice none 0 0, .slice none 0 0] 58)) (w.heap.size + 1) 58 #[.int .u64 0, .slice none 0 0, .slice none 0 0] := blk_at18 (by simp) _ _
 obtain ⟨cc, hcc⟩ : ∃ cc, cc = grownCap ((w.alloc (.cells (cN a (.slice A f.len c)) 42)).alloc (.cells #[.int .u64 0, .slice none 0 0, .slice none 0 0] 58)) (txt a.name).size 0 5 := ⟨_, rfl⟩
 have hcl : a.name.length ≤ cc := by rw [hcc]; exact grownCap_ge _ _ _ _
 have kc0 := run_bytes_of_string (P := Tryz.prog) ((w.alloc (.cells (cN a (.slice A f.len c)) 42)).alloc (.cells #[.int .u64 0, .slice none 0 0, .slice none 0 0] 58)) 9 25 5 (txt a.name) Tryz.underlying9 Tryz.underlying25 Tryz.underlying5
 rw [← hcc] at kc0
 obtain ⟨hd0, hbl0, hbw0⟩ : Rd (((((w.alloc (.cells (cN a (.slice A f.len c)) 42)).alloc (.cells #[.int .u64 0, .slice none 0 0, .slice none 0 0] 58)).alloc (.cells (bytesRow (txt a.name) cc) 5 ((bytesRow (txt a.name) cc).size, (bytesRow (txt a.name) cc).size + 1))).alloc (.cells #[.int .u64 0, (.slice (some ⟨w.heap.size + 1 + 1, 0, none⟩) a.name.length cc), .slice none 0 0] 58)).drew) (w.heap.size + 1 + 1) (.slice (some ⟨w.heap.size + 1 + 1, 0, none⟩) a.name.length cc) a.name ∧ Blk (((((w.alloc (.cells (cN a (.slice A f.len c)) 42)).alloc (.cells #[.int .u64 0, .slice none 0 0, .slice none 0 0] 58)).alloc (.cells (bytesRow (txt a.name) cc) 5 ((bytesRow (txt a.name) cc).size, (bytesRow (txt a.name) cc).size + 1))).alloc (.cells #[.int .u64 0, (.slice (some ⟨w.heap.size + 1 + 1, 0, none⟩) a.name.length cc), .slice none 0 0] 58)).drew) (w.heap.size + 1 + 1 + 1) 58 #[.int .u64 ((0 : Nat) : Int), (.slice (some ⟨w.heap.size + 1 + 1, 0, none⟩) a.name.length cc), .slice none 0 0] ∧ Below (w.heap.size + 1 + 1) ((w.alloc (.cells (cN a (.slice A f.len c)) 42)).alloc (.cells #[.int .u64 0, .slice none 0 0, .slice none 0 0] 58)) (((((w.alloc (.cells (cN a (.slice A f.len c)) 42)).alloc (.cells #[.int .u64 0, .slice none 0 0, .slice none 0 0] 58)).alloc (.cells (bytesRow (txt a.name) cc) 5 ((bytesRow (txt a.name) cc).size, (bytesRow (txt a.name) cc).size + 1))).alloc (.cells #[.int .u64 0, (.slice (some ⟨w.heap.size + 1 + 1, 0, none⟩) a.name.length cc), .slice none 0 0] 58)).drew) := by
  have h := text_item18 ((w.alloc (.cells (cN a (.slice A f.len c)) 42)).alloc (.cells #[.int .u64 0, .slice none 0 0, .slice none 0 0] 58)) a.name 0 cc hoa.name hcl
  rw [hz] at h
  exact h
 have HST : Hid (Si18 w a f A c (.slice (some ⟨w.heap.size + 1 + 1 + 1, 0, none⟩) 1 1) (Fo.cons 0 a.name .nil .nil) (((((w.alloc (.cells (cN a (.slice A f.len c)) 42)).alloc (.cells #[.int .u64 0, .slice none 0 0, .slice none 0 0] 58)).alloc (.cells (bytesRow (txt a.name) cc) 5 ((bytesRow (txt a.name) cc).size, (bytesRow (txt a.name) cc).size + 1))).alloc (.cells #[.int .u64 0, (.slice (some ⟨w.heap.size + 1 + 1, 0, none⟩) a.name.length cc), .slice none 0 0] 58)).drew)) := hHd
  ⟨hb1.below hbw0 (by omega), hb2.below hbw0 (by omega), OwnF.litI18 (t := 0) hbl0 (by omega) (by decide) (dataI_its18 hd0 (Nat.le_refl _) (fun e => by have e2 : w.heap.size + 1 + 1 + 1 = w.heap.size + 1 + 1 := Option.some.inj e; omega)), h0.trans (hbw0.mono (by omega)), Nat.le_trans (by omega) hbw0.size⟩
 obtain ⟨kb, hkb⟩ : ∃ b, b = decide (a.key ≠ []) := ⟨_, rfl⟩
 obtain ⟨vb, hvb⟩ : ∃ b, b = decide (a.kind ≠ 0) := ⟨_, rfl⟩
 obtain ⟨V, hV⟩ : ∃ V, V = valT18 leastB a := ⟨_, rfl⟩
 obtain ⟨F1, hF1⟩ : ∃ F, F = (Fo.cons 0 a.name .nil .nil).app (if kb = true then .cons 2 a.key .nil .nil else .nil) := ⟨_, rfl⟩
 obtain ⟨F3, hF3⟩ : ∃ F, F = F1.app (if vb = true then .cons 4 V .nil .nil else .nil) := ⟨_, rfl⟩
 have hF4 : F3 = inI18 leastB a .nil := by
  rw [hF3, hF1, hvb, hkb, hV]
  unfold inI18 keyI18 valI18
  by_cases e1 : a.kind = 0
  ·by_cases e3 : a.key = [] <;> simp [e1, e3, Fo.app]
  ·by_cases e3 : a.key = [] <;> simp [e1, e3, Fo.app]
 have hl3 : F3.len ≤ 3 := by rw [hF4]; exact inI_len18 _ _
 have hl1 : F1.len ≤ 3 := by rw [hF3, Fo.len_app] at hl3; omega
 have hkk : 0 ≤ a.kind ∧ a.kind ≤ 255 := by
  simp only [okN18, ndOk, Bool.and_eq_true, decide_eq_true_eq] at hok
  exact ⟨hok.1.1.1.1.2, hok.1.1.1.2⟩
 have HLF : ∀ W, Hid (Calls Tryz.prog 76 #[.agg (cN a (.slice A f.len c))] W (Ans9 (.bool vb) W)) := fun W => hHd (by rw [hvb]; exact leaf_any18 a f A c W)
 have HBY : ∀ W, Hid (Calls Tryz.prog 77 #[.agg #[.int .i64 a.kind, .int .u64 (a.num : Int), .string (txt a.text)]] W (DatP V W)) := fun W => hHd (by rw [hV]; exact byt_any18 a W hkk.1 hkk.2 hoa.num hoa.text)
 have HI := hHd hkids
 have HK : Hid (RowT w.heap.size w (.slice A f.len c) f) := hHd hrow
 have HZ : Hid (f.size ≤ 1000000) := hHd hsz
 have HOF := hHd hof
 have HON : Hid (okF18 f = true) := hHd (by simp only [okN18, Bool.and_eq_true] at hok; exact hok.2)
 have HKB := hHd hkb
 have HKL : Hid (a.key.length ≤ 1048576) := hHd hoa.key
 have HF1 := hHd hF1
 have HF3 := hHd hF3
 have HF4 := hHd hF4
 have HLE : Hid (F1.len ≤ 3 ∧ F3.len ≤ 3) := hHd ⟨hl1, hl3⟩
 have HT := hHd ht
 have tn : (txt a.name).toList = a.name := txt_toList _
 have tk : (txt a.key).toList = a.key := txt_toList _
 have sn := txt_size a.name
 have sk := txt_size a.key
 clear ht hrow hsz hoa hof hok h0 hz hb1 hb2 hkids hkb hvb hF1 hF3 hF4 hl1 hl3 hkk hV hcc hcl hd0 hbl0 hbw0
 go_enter Tryz.func43, Tryz.ntmps43
 go_upto_region 2 with (fail)
 clear kc0
 revert HST
 generalize (((((w.alloc (.cells (cN a (.slice A f.len c)) 42)).alloc (.cells #[.int .u64 0, .slice none 0 0, .slice none 0 0] 58)).alloc (.cells (bytesRow (txt a.name) cc) 5 ((bytesRow (txt a.name) cc).size, (bytesRow (txt a.name) cc).size + 1))).alloc (.cells #[.int .u64 0, (.slice (some ⟨w.heap.size + 1 + 1, 0, none⟩) a.name.length cc), .slice none 0 0] 58)).drew) = w1
 intro HST
 have p1 : w1.cell? ⟨w.heap.size, 1, none⟩ = some (.string (txt a.key)) := (HST.out.1.cell 1).trans rfl
 go_cut [15] (fun b wx => b = .bool kb ∧ Hid (Si18 w a f A c (.slice (some ⟨w.heap.size + 1 + 1 + 1, 0, none⟩) 1 1) (Fo.cons 0 a.name .nil .nil) wx))
 case first =>
  by_cases hk : a.key = []
  ·have e1 : (a.key == []) = true := by rw [hk]; rfl
   have e2 : a.key.isEmpty = true := by rw [hk]; rfl
   have e3 : (a.key != []) = false := by rw [hk]; rfl
   have HE : Hid (kb = false) := hHd (by rw [HKB.out]; simp [hk])
   clear hk
   go_wp2_with fail
   go_meet
   exact ⟨by rw [HE.out], HST⟩
  ·have e1 : (a.key == []) = false := by cases e : a.key with | nil => exact absurd e hk | cons => rfl
   have e2 : a.key.isEmpty = false := by cases e : a.key with | nil => exact absurd e hk | cons => rfl
   have e3 : (a.key != []) = true := by simp [hk]
   have HE : Hid (kb = true) := hHd (by rw [HKB.out]; simp [hk])
   clear hk
   go_wp2_with fail
   go_meet
   exact ⟨by rw [HE.out], HST⟩
 case rest =>
 obtain ⟨rfl, HST⟩ := hcut
 obtain ⟨wk, hwk⟩ : ∃ wk, wk = wc := ⟨_, rfl⟩
 subst hwk
 clear p1
 go_upto_if 15 with (fail)
 go_cut [5] (fun u wx => ∃ v : Value, v = u ∧ Hid (Si18 w a f A c v F1 wx))
 case first =>
  cases kb with
  | false =>
   have HE : Hid (F1 = (Fo.cons 0 a.name .nil .nil)) := hHd (by rw [HF1.out]; rfl)
   go_wp2_with fail
   go_meet
   exact ⟨_, rfl, by rw [HE.out]; exact HST⟩
  | true =>
   have HE : Hid (F1 = (Fo.cons 0 a.name .nil .nil).app (.cons 2 a.key .nil .nil)) := hHd (by rw [HF1.out]; rfl)
   have p1 : wk.cell? ⟨w.heap.size, 1, none⟩ = some (.string (txt a.key)) := (HST.out.1.cell 1).trans rfl
   obtain ⟨cd, hcd⟩ : ∃ cd, cd = grownCap wk (txt a.key).size 0 5 := ⟨_, rfl⟩
   have hcl : a.key.length ≤ cd := by rw [hcd]; exact grownCap_ge _ _ _ _
   have kc0 := run_bytes_of_string (P := Tryz.prog) wk 9 25 5 (txt a.key) Tryz.underlying9 Tryz.underlying25 Tryz.underlying5
   rw [← hcd] at kc0
   obtain ⟨hd0, hbl0, hbw0⟩ := text_item18 wk a.key 2 cd HKL.out hcl
   have HSA : Hid (Si18 w a f A c (.slice (some ⟨w.heap.size + 1 + 1 + 1, 0, none⟩) 1 1) (Fo.cons 0 a.name .nil .nil) ((wk.drew.alloc (.cells (bytesRow (txt a.key) cd) 5 ((bytesRow (txt a.key) cd).size, (bytesRow (txt a.key) cd).size + 1))).alloc (.cells #[.int .u64 2, (.slice (some ⟨wk.heap.size, 0, none⟩) a.key.length cd), .slice none 0 0] 58))) := hHd (HST.out.go hbw0)
   have HBL : Hid (Blk ((wk.drew.alloc (.cells (bytesRow (txt a.key) cd) 5 ((bytesRow (txt a.key) cd).size, (bytesRow (txt a.key) cd).size + 1))).alloc (.cells #[.int .u64 2, (.slice (some ⟨wk.heap.size, 0, none⟩) a.key.length cd), .slice none 0 0] 58)) (wk.heap.size + 1) 58 #[.int .u64 ((2 : Nat) : Int), (.slice (some ⟨wk.heap.size, 0, none⟩) a.key.length cd), .slice none 0 0]) := hHd hbl0
   have HDI : Hid (DataI ((wk.drew.alloc (.cells (bytesRow (txt a.key) cd) 5 ((bytesRow (txt a.key) cd).size, (bytesRow (txt a.key) cd).size + 1))).alloc (.cells #[.int .u64 2, (.slice (some ⟨wk.heap.size, 0, none⟩) a.key.length cd), .slice none 0 0] 58)) (ItsI (w.heap.size + 2) ((wk.drew.alloc (.cells (bytesRow (txt a.key) cd) 5 ((bytesRow (txt a.key) cd).size, (bytesRow (txt a.key) cd).size + 1))).alloc (.cells #[.int .u64 2, (.slice (some ⟨wk.heap.size, 0, none⟩) a.key.length cd), .slice none 0 0] 58)) (.slice (some ⟨w.heap.size + 1 + 1 + 1, 0, none⟩) 1 1)) (.slice (some ⟨wk.heap.size, 0, none⟩) a.key.length cd) a.key) := hHd (dataI_its18 hd0 HST.out.2.2.2.2 (fun e => by have := (HST.out.2.2.1.lt _ e).2; omega))
   clear hcd hcl hd0 hbl0 hbw0
   go_wp2_with (at_builtin; refine wpList_append_it stays_I one_I Tryz.underlying56 Tryz.infoT18 zeroI18 rfl (.tmp 16) (.tmp 21) rfl rfl (w.heap.size + 2) (.slice (some ⟨w.heap.size + 1 + 1 + 1, 0, none⟩) 1 1) (Fo.cons 0 a.name .nil .nil) rfl HSA.out.2.2.1 (wk.heap.size + 1) rfl 2 a.key .nil (.slice (some ⟨wk.heap.size, 0, none⟩) a.key.length cd) (.slice none 0 0) HBL.out (by decide) HDI.out (FV.nil _ _) (by simp only [Fo.len]; omega) (by simp only [Fo.len]; omega) HSA.out.2.2.2.2 ?_)
   intro v9 w9 hap
   have H9 := hHd (HSA.out.app hap)
   clear hap HBL HSA HDI p1 kc0
   go_wp2_with fail
   go_meet
   exact ⟨_, rfl, by rw [HE.out]; exact H9⟩
 case rest =>
 obtain ⟨u, rfl, HST⟩ := hcut
 obtain ⟨w4, hw4⟩ : ∃ w4, w4 = wc := ⟨_, rfl⟩
 subst hw4
 clear HF1 HKB HKL tn tk sn sk
 go_upto_region 4 with (fail)
 go_cut [24] (fun b wx => b = .bool vb ∧ Hid (Si18 w a f A c u F1 wx))
 case first =>
  obtain ⟨p0, p1, p2, p3, p4, p5⟩ := cl6 HST.out.1
  go_wp2_with fail
  refine (HLF _).out.mono ?_
  rintro r w5 ⟨rfl, hb⟩
  have HST5 := hHd (HST.out.go hb)
  clear hb HST p0 p1 p2 p3 p4 p5
  go_wp2_with fail
  go_meet
  exact ⟨rfl, HST5⟩
 case rest =>
 obtain ⟨rfl, HST5⟩ := hcut
 clear HST
 obtain ⟨w5, hw5⟩ : ∃ w5, w5 = wc := ⟨_, rfl⟩
 subst hw5
 go_upto_if 24 with (fail)
 go_cut [5] (fun u wx => ∃ v : Value, v = u ∧ Hid (Si18 w a f A c v F3 wx))
 case first =>
  cases vb with
  | false =>
   have HE : Hid (F3 = F1) := hHd (by rw [HF3.out]; simp [Fo.app_nil])
   go_wp2_with fail
   go_meet
   exact ⟨_, rfl, by rw [HE.out]; exact HST5⟩
  | true =>
   have HE : Hid (F3 = F1.app (.cons 4 V .nil .nil)) := hHd (by rw [HF3.out]; rfl)
   have p2 := (HST5.out.1.cell 2).trans rfl
   have p3 := (HST5.out.1.cell 3).trans rfl
   have p4 := (HST5.out.1.cell 4).trans rfl
   go_wp2_with fail
   refine (HBY _).out.mono ?_
   rintro r w8 ⟨v8, rfl, hd, hb⟩
   obtain ⟨A8, c8, rfl⟩ : ∃ A c, v8 = .slice A V.length c := by obtain ⟨_, ⟨A, c, e, _⟩, _⟩ := hd; exact ⟨A, c, e⟩
   obtain ⟨n8, hn8⟩ : ∃ n, n = V.length := ⟨_, rfl⟩
   rw [← hn8] at hd
   rw [← hn8]
   clear hn8
   have hb9 : Below w8.heap.size w8 (w8.alloc (.cells #[.int .u64 4, .slice A8 n8 c8, .slice none 0 0] 58)) := bAl
   have HSA : Hid (Si18 w a f A c u F1 (w8.alloc (.cells #[.int .u64 4, .slice A8 n8 c8, .slice none 0 0] 58))) := hHd ((HST5.out.go hb).go hb9)
   have HBL : Hid (Blk (w8.alloc (.cells #[.int .u64 4, .slice A8 n8 c8, .slice none 0 0] 58)) w8.heap.size 58 #[.int .u64 ((4 : Nat) : Int), .slice A8 n8 c8, .slice none 0 0]) := hHd (Blk.new _ _ _)
   have HDI : Hid (DataI (w8.alloc (.cells #[.int .u64 4, .slice A8 n8 c8, .slice none 0 0] 58)) (ItsI (w.heap.size + 2) (w8.alloc (.cells #[.int .u64 4, .slice A8 n8 c8, .slice none 0 0] 58)) u) (.slice A8 n8 c8) V) := hHd (its_mine18 HST5.out.2.2.1 HST5.out.2.2.2.2 (stays_I _ _ _ _ _ _ (fun g hg => Below.heap_alloc _ _ _ hg.2) (fun g hg => ⟨hg.1, Nat.lt_of_lt_of_le hg.2 (by simp)⟩) hd))
   clear hd hb hb9 p2 p3 p4 HST5
   go_wp2_with (at_builtin; refine wpList_append_it stays_I one_I Tryz.underlying56 Tryz.infoT18 zeroI18 rfl (.tmp 25) (.tmp 30) rfl rfl (w.heap.size + 2) u F1 rfl HSA.out.2.2.1 w8.heap.size rfl 4 V .nil (.slice A8 n8 c8) (.slice none 0 0) HBL.out (by decide) HDI.out (FV.nil _ _) (by have := HLE.out.1; omega) (by have := HLE.out.1; omega) HSA.out.2.2.2.2 ?_)
   intro v9 w9 hap
   have H9 := hHd (HSA.out.app hap)
   clear hap HBL HSA HDI
   go_wp2_with fail
   go_meet
   exact ⟨_, rfl, by rw [HE.out]; exact H9⟩
 case rest =>
 obtain ⟨u, rfl, HST⟩ := hcut
 obtain ⟨w6, hw6⟩ : ∃ w6, w6 = wc := ⟨_, rfl⟩
 subst hw6
 clear HF3 HLF HBY
 have H0 : Hid (Si18 w a f A c u (F3.app (itmF18 leastB (Fr.take 0 f))) w6) := hHd (by
  have h := HST.out
  rwa [show F3.app (itmF18 leastB (Fr.take 0 f)) = F3 by cases f <;> exact Fo.app_nil F3])
 have p5 : w6.cell? ⟨w.heap.size, 5, none⟩ = some (.slice A f.len c) := (HST.out.1.cell 5).trans rfl
 clear HST
 go_wp2
 clear p5
 go_loopw [5, 35] (fun u i wr => ∃ (v : Value) (j : Nat), j ≤ f.len ∧ v = u ∧ i = .int .i64 (j : Int) ∧ Hid (Si18 w a f A c v (F3.app (itmF18 leastB (Fr.take j f))) wr)) (fun _ i _ => f.len - (intOf i).toNat)
 case atStart => exact ⟨u, 0, Nat.zero_le _, rfl, rfl, H0⟩
 case round =>
  clear H0
  obtain ⟨v, j, hj, rfl, rfl, HST⟩ := hrel
  obtain ⟨w7, hw7⟩ : ∃ w7, w7 = wr := ⟨_, rfl⟩
  subst hw7
  by_cases hlt : j < f.len
  ·obtain ⟨a1, q, hg⟩ := Fr.get_some hlt
   obtain ⟨b, o, A', c', rfl, -, -, hbl, hrow, hcl⟩ := HK.out.at hg
   have hbw := HST.out.2.2.2.1
   have hcell : ∀ i u, (ndC a1 (.slice A' q.len c'))[i]? = some u → w7.cell? ⟨b, o + j * 6 + i, none⟩ = some u := fun i u hu => (hbw.cell (p := ⟨b, o + j * 6 + i, none⟩) hbl).trans (hcl i u hu)
   have q0 : (w7).cell? ⟨b, o + j * 6, none⟩ = _ := hcell 0 _ rfl
   have q1 : (w7).cell? ⟨b, o + j * 6 + 1, none⟩ = _ := hcell 1 _ rfl
   have q2 : (w7).cell? ⟨b, o + j * 6 + 2, none⟩ = _ := hcell 2 _ rfl
   have q3 : (w7).cell? ⟨b, o + j * 6 + 3, none⟩ = _ := hcell 3 _ rfl
   have q4 : (w7).cell? ⟨b, o + j * 6 + 4, none⟩ = _ := hcell 4 _ rfl
   have q5 : (w7).cell? ⟨b, o + j * 6 + 5, none⟩ = _ := hcell 5 _ rfl
   have i1 : (0 : Int) ≤ (j : Int) := by omega
   have i2 : (j : Int) < (f.len : Int) := by omega
   have i3 : (f.len : Int) ≤ 1000000 := by have := HZ.out; have := Fr.len_size f; omega
   obtain ⟨K, hK⟩ : ∃ K, K = inI18 leastB a1 (itmF18 leastB q) := ⟨_, rfl⟩
   obtain ⟨n, hn⟩ : ∃ n, n = K.len := ⟨_, rfl⟩
   obtain ⟨Fj, hFj⟩ : ∃ F, F = F3.app (itmF18 leastB (Fr.take j f)) := ⟨_, rfl⟩
   have hLj : Fj.len ≤ 1000003 := by
    have h1 := take_len18 j f
    have h2 := HLE.out.2
    rw [hFj, Fo.len_app, itm_len18]
    omega
   have HNX : Hid (F3.app (itmF18 leastB (Fr.take (j + 1) f)) = Fj.app (.cons 7 [] K .nil)) := hHd (by rw [itm_take18 _ hg, hFj, hK, Fo.app_assoc])
   rw [← hFj] at HST
   have hb8 : Below w7.heap.size w7 (w7.alloc (.cells (cN a1 (.slice A' q.len c')) 42)) := bAl
   have HI1 : Hid (Calls Tryz.prog 43 #[.int .u64 7, .agg (cN a1 (.slice A' q.len c'))] (w7.alloc (.cells (cN a1 (.slice A' q.len c')) 42)) (ItmI18 7 K (w7.alloc (.cells (cN a1 (.slice A' q.len c')) 42)))) := hHd (by
    have hok := okF_at.1 HON.out j hlt
    unfold okAt18 at hok
    rw [hg] at hok
    have hfd := (HOF.out.at hg)
    rw [hK]
    exact HI.out j a1 q hg 7 a1 A' c' (w7.alloc (.cells (cN a1 (.slice A' q.len c')) 42)) (by decide) ((hrow.under hbw (Nat.le_refl _) hbw.size).under hb8 (Nat.le_refl _) hb8.size) (by have := HZ.out; have := Fr.size_get hg; omega) hfd.1 hfd.2 hok)
   have HLJ := hHd hLj
   have HNN := hHd hn
   have HLT : Hid (∀ k, v.ownBlock = some k → k < w7.heap.size) := hHd (fun k e => (HST.out.2.2.1.lt k e).2)
   have HST8 := hHd (HST.out.go hb8)
   have HS78 : Hid (w7.heap.size ≤ (w7.alloc (.cells (cN a1 (.slice A' q.len c')) 42)).heap.size) := hHd hb8.size
   clear hcl hg hrow hcell hbl hK hFj hLj hbw hb8
   go_wp2_with fail
   refine HI1.out.mono ?_
   rintro r w8 ⟨A8, c8, rfl, hfv, hb8⟩
   rw [← hn]
   rw [← hn] at hfv
   have hb9 : Below w8.heap.size w8 (w8.alloc (.cells #[.int .u64 7, .slice none 0 0, .slice A8 n c8] 58)) := bAl
   have HSA : Hid (Si18 w a f (some ⟨b, o, none⟩) c v Fj (w8.alloc (.cells #[.int .u64 7, .slice none 0 0, .slice A8 n c8] 58))) := hHd ((HST8.out.go hb8).go hb9)
   have HBL : Hid (Blk (w8.alloc (.cells #[.int .u64 7, .slice none 0 0, .slice A8 n c8] 58)) w8.heap.size 58 #[.int .u64 ((7 : Nat) : Int), .slice none 0 0, .slice A8 n c8]) := hHd (Blk.new _ _ _)
   have HFV : Hid (FV DataI (w8.alloc (.cells #[.int .u64 7, .slice none 0 0, .slice A8 n c8] 58)) (ItsI (w.heap.size + 2) (w8.alloc (.cells #[.int .u64 7, .slice none 0 0, .slice A8 n c8] 58)) v) (.slice A8 n c8) K) := hHd (hfv.kept stays_I (fun g hg => Below.heap_alloc _ _ _ hg.2) (fun g hg => ⟨by have := hg.1; have := HST.out.2.2.2.2; have := HS78.out; omega, Nat.lt_of_lt_of_le hg.2 (by simp), fun e => by have := HLT.out g e.symm; have := hg.1; have := HS78.out; omega⟩))
   clear hb8 hb9 hfv q0 q1 q2 q3 q4 q5 HI1 hn HS78 HST8
   go_wp2_with (at_builtin; refine wpList_append_it stays_I one_I Tryz.underlying56 Tryz.infoT18 zeroI18 rfl (.tmp 39) (.tmp 42) rfl rfl (w.heap.size + 2) v Fj rfl HSA.out.2.2.1 w8.heap.size rfl 7 [] K (.slice none 0 0) (.slice A8 n c8) HBL.out (by decide) (dataI_nil18 _ _) HFV.out (by have := HLJ.out; omega) (by have := HLJ.out; omega) HSA.out.2.2.2.2 ?_)
   intro v9 w9 hap
   have H9 := hHd (HSA.out.app hap)
   rw [← HNX.out] at H9
   clear hap HBL HSA HFV HST
   go_wp2_with fail
   go_roundw
   case rel => exact ⟨v9, j + 1, by omega, rfl, by go_num, H9⟩
   case measure => simp [intOf]; omega
  ·obtain rfl : j = f.len := by omega
   have i2 : ¬ (f.len : Int) < (f.len : Int) := by omega
   have HFE : Hid (F3.app (itmF18 leastB (Fr.take f.len f)) = inI18 leastB a (itmF18 leastB f)) := hHd (by rw [Fr.take_all, HF4.out]; exact (inI_app18 leastB a (itmF18 leastB f)).symm)
   rw [HFE.out] at HST
   obtain ⟨K, hK⟩ : ∃ K, K = inI18 leastB a (itmF18 leastB f) := ⟨_, rfl⟩
   rw [← hK] at HST
   obtain ⟨A8, c8, rfl⟩ := HST.out.2.2.1.shape
   obtain ⟨n, hn⟩ : ∃ n, n = K.len := ⟨_, rfl⟩
   have HNN := hHd hn
   have HKE := hHd hK
   rw [← hn] at HST
   rw [← hn]
   have V9 : Veil18 (Blk (set3o w7 (w.heap.size + 1) 0 (.int .u64 (t : Int)) (.slice none 0 0) (.slice A8 n c8)) (w.heap.size + 1) 58 #[.int .u64 (t : Int), .slice none 0 0, .slice A8 n c8] ∧ FV DataI (set3o w7 (w.heap.size + 1) 0 (.int .u64 (t : Int)) (.slice none 0 0) (.slice A8 n c8)) (MineI w.heap.size (set3o w7 (w.heap.size + 1) 0 (.int .u64 (t : Int)) (.slice none 0 0) (.slice A8 n c8))) (.slice A8 n c8) K ∧ Below w.heap.size w (set3o w7 (w.heap.size + 1) 0 (.int .u64 (t : Int)) (.slice none 0 0) (.slice A8 n c8))) := .mk
    ⟨blk_set3_18 HST.out.2.1 _ _ _, (HST.out.2.2.1.fv stays_I).kept stays_I (fun g hg => set3o_far (by have := hg.1; omega)) (fun g hg => ⟨by have := hg.1; omega, by rw [set3o_size]; exact hg.2⟩), HST.out.2.2.2.1.trans (set3o_below18 (Nat.le_succ _))⟩
   have fz0 : w7.frozen? ⟨w.heap.size + 1, 0, none⟩ = false := HST.out.2.1.frozen 0
   have fz1 : w7.frozen? ⟨w.heap.size + 1, 1, none⟩ = false := HST.out.2.1.frozen 1
   have fz2 : w7.frozen? ⟨w.heap.size + 1, 2, none⟩ = false := HST.out.2.1.frozen 2
   obtain ⟨fq0, fq1, fq2⟩ := cl3 HST.out.2.1
   clear HST hlt hn hK
   go_wp2_with fail
   refine bodyPost_ret (results_cell_row rfl _ _ (w.heap.size + 1) 58 _ (0, 0) _ rfl V9.out.1 Tryz.underlying58 rfl (by kernel_rfl)) rfl ?_
   rw [← HKE.out]
   exact ⟨A8, c8, by rw [HNN.out], by rw [← HNN.out]; exact V9.out.2.1, V9.out.2.2⟩
theorem item_any18 (f : NdF) : ItemI18 f := Fr.byKids (P := ItemI18) (fun f h => item_row18 f h) f
end
def Lt (B g : Nat) : Prop := g < B
def SelfC (w : World) (sb cb : Nat) : Prop := Blk w sb 124 #[.func (.func 78) #[] #[.pointer (some ⟨cb, 0, none⟩), .pointer (some ⟨sb, 0, none⟩)]]
def SoundP (f : Fo) (deep c0 cb : Nat) (w : World) (r : Ending) (w' : World) : Prop :=
 ∃ b, r = .returned (.bool b) ∧ b = (Fo.right deep f && decide (c0 + f.cnt ≤ 4096)) ∧ w.grownBy w' (some cb) ∧ (b = true → Blk w' cb 3 #[.int .i64 ((c0 + f.cnt : Nat) : Int)])
theorem grown_alloc {w w' : World} {cb : Nat} (h : w.grownBy w' (some cb)) (o : Obj) : w.grownBy (w'.alloc o) (some cb) := grown_below h bAl
def SoundAt (k : Fo) : Prop := ∀ (w : World) (v : Value) (B cb sb deep c0 : Nat) (dI : Int), FV DataI w (Lt B) v k → k.sz ≤ 1099511627776 → deep ≤ 7 → dI = (deep : Int) → c0 ≤ 4096 → B ≤ cb → B ≤ sb → B ≤ w.heap.size → cb ≠ sb →
  Blk w cb 3 #[.int .i64 (c0 : Int)] → SelfC w sb cb →
  Calls Tryz.prog 78 #[v, .int .i64 dI, .pointer (some ⟨cb, 0, none⟩), .pointer (some ⟨sb, 0, none⟩)] w (SoundP k deep c0 cb w)
theorem sound_any (f : Fo) : SoundAt f := by
 refine Fo.byKids (P := SoundAt) ?_ f
 clear f
 intro f hkids w v B cb sb deep c0 dI hv hsz hd7 hdI hc4 hBc hBs hBw hne hblk hself
 subst hdI
 obtain ⟨A, c, rfl⟩ := hv.shape
 have hws := f.wt_le_sz
 have hlw := f.len_le_wt
 have hlc := f.len_le_cnt
 have hlen40 : f.len ≤ 1099511627776 := by omega
 have HK : Hid (Fo.kidsAll SoundAt f) := hHd hkids
 have hcell : w.cell? ⟨cb, 0, none⟩ = some (.int .i64 (c0 : Int)) := by rw [hblk.cell]; rfl
 have hfz : w.frozen? ⟨cb, 0, none⟩ = false := hblk.frozen 0
 have hb1 := hblk.set_ 0 (.int .i64 ((c0 + f.len : Nat) : Int))
 have hb1' : Blk (w.setCell ⟨cb, 0, none⟩ (.int .i64 ((c0 : Int) + (f.len : Int)))) cb 3 #[.int .i64 ((c0 : Int) + (f.len : Int))] := hb1
 have hc1 : (w.setCell ⟨cb, 0, none⟩ (.int .i64 ((c0 : Int) + (f.len : Int)))).cell? ⟨cb, 0, none⟩ = some (.int .i64 ((c0 : Int) + (f.len : Int))) := by rw [hb1'.cell]; rfl
 have hg1 : w.grownBy (w.setCell ⟨cb, 0, none⟩ (.int .i64 ((c0 : Int) + (f.len : Int)))) (some cb) := grown_set _
 clear hkids hws hlw hb1 hlc
 by_cases hgt : 4096 < c0 + f.len
 ·have HP : Hid (SoundP f deep c0 cb w (.returned (.bool false)) (w.setCell ⟨cb, 0, none⟩ (.int .i64 ((c0 : Int) + (f.len : Int))))) := hHd (by
   refine ⟨false, rfl, ?_, hg1, fun h => by cases h⟩
   have := f.len_le_cnt
   rw [decide_eq_false (by omega), Bool.and_false])
  have hgt2 : decide ((4096 : Int) < (c0 : Int) + (f.len : Int)) = true := decide_eq_true (by omega)
  clear hgt hg1 hb1'
  go_enter Tryz.func78, Tryz.ntmps78
  go_wp2
  go_ret
  exact HP.out
 ·have hgt2 : decide ((4096 : Int) < (c0 : Int) + (f.len : Int)) = false := decide_eq_false (by omega)
  have hself1 : SelfC (w.setCell ⟨cb, 0, none⟩ (.int .i64 ((c0 : Int) + (f.len : Int)))) sb cb := hself.grown hg1 (by intro h; injection h with h; exact hne h.symm)
  go_enter Tryz.func78, Tryz.ntmps78
  go_wp2
  go_loopw [17] (fun i wr => ∃ (j q : Nat), j ≤ f.len ∧ i = .int .i64 (j : Int) ∧ q ≤ 4096 ∧ Hid (q + j = c0 + f.len + (Fo.take j f).cnt) ∧ Hid (Fo.right deep (Fo.take j f) = true) ∧ Hid (Blk wr cb 3 #[.int .i64 (q : Int)]) ∧ Hid (w.grownBy wr (some cb))) (fun i _ => f.len - (intOf i).toNat)
  case atStart => exact ⟨0, c0 + f.len, Nat.zero_le _, rfl, by omega, hHd rfl, hHd rfl, hHd (by rw [Int.natCast_add]; exact hb1'), hHd hg1⟩
  case round =>
   obtain ⟨j, q, hj, rfl, hq4, HQ, HR, HB, HG⟩ := hrel
   clear hcell hfz hc1 hgt2 hb1' hg1 hself1
   by_cases hlt : j < f.len
   ·obtain ⟨b, o, c', t, d, k, hve, hcap, hS, hdr, htk, ht64, hk0, ⟨dv, hk1, db, hdv, hdS⟩, ⟨kv, hk2, hkv⟩⟩ := hv.at hlt
    injection hve with e1 e2 e3
    subst e1 e3
    have hSb : b < B := hS
    obtain ⟨A1, c1, rfl⟩ : ∃ D cd, dv = .slice D d.length cd := by obtain ⟨D, cd, e, _⟩ := hdv; exact ⟨D, cd, e⟩
    obtain ⟨A2, c2, rfl⟩ := hkv.shape
    have hG := HG.out
    have hne0 : b ≠ cb := by omega
    have hbW : b < w.heap.size := by omega
    have z1 := hG.size
    have hC0 : wr.cell? ⟨b, o + j * 3, none⟩ = some (.int .u64 (t : Int)) := hG.cell hk0 (by simpa using hne0)
    have hC1 : wr.cell? ⟨b, o + j * 3 + 1, none⟩ = some (.slice A1 d.length c1) := hG.cell hk1 (by simpa using hne0)
    have hC2 : wr.cell? ⟨b, o + j * 3 + 2, none⟩ = some (.slice A2 k.len c2) := hG.cell hk2 (by simpa using hne0)
    have hdrop : (Fo.drop j f).sz ≤ f.sz := by
     have h := Fo.sz_app (Fo.take j f) (Fo.drop j f)
     rw [Fo.take_app_drop] at h
     omega
    rw [hdr] at hdrop
    simp only [Fo.sz] at hdrop
    have hIH : SoundAt k := by
     have h := Fo.kidsAll_drop j HK.out
     rw [hdr] at h
     exact h.1
    have hks40 : k.sz ≤ 1099511627776 := by omega
    have hright := Fo.right_at deep j hdr
    have hrtake := Fo.right_take deep j htk
    have hpe := pureB_eq t d k
    rw [← hpe] at hright hrtake
    have i1 : (0 : Int) ≤ (j : Int) := by omega
    have i2 : (j : Int) < (f.len : Int) := by omega
    have HRT := hHd hright
    have HRK := hHd hrtake
    have HKV := hHd hkv
    have HIH := hHd hIH
    have HCT : Hid ((Fo.take (j + 1) f).cnt = (Fo.take j f).cnt + (1 + k.cnt)) := hHd (by rw [htk, Fo.cnt_app]; simp [Fo.cnt])
    have HNE := hHd hne
    have HNE0 := hHd hne0
    clear hIH hkv hdr htk hk0 hk1 hk2 e2 hS hdrop hsz hright hrtake hpe hdv hdS ht64 hne hne0 HK
    by_cases h6 : 6 < deep
    ·have hd6 : decide ((6 : Int) < (deep : Int)) = true := decide_eq_true (by omega)
     have HP : Hid (SoundP f deep c0 cb w (.returned (.bool false)) (wr.alloc (.cells #[.int .u64 (t : Int), .slice A1 d.length c1, .slice A2 k.len c2] 58))) := hHd (by
      refine ⟨false, rfl, ?_, grown_alloc hG _, fun h => by cases h⟩
      rw [HRT.out, decide_eq_false (by omega : ¬ deep ≤ 6)]; simp)
     clear h6 hG
     go_wp2
     go_ret
     exact HP.out
    ·have hd6 : decide ((6 : Int) < (deep : Int)) = false := decide_eq_false (by omega)
     have hdp : deep ≤ 6 := by omega
     clear h6
     go_wp2_with fail
     refine (pure_any t d.length k.len A1 A2 c1 c2 _).mono ?_
     rintro r w1 ⟨rfl, hb1⟩
     have hGA := grown_alloc hG (.cells #[.int .u64 (t : Int), .slice A1 d.length c1, .slice A2 k.len c2] 58)
     have hG1 := grown_below hGA hb1
     have z2 := hb1.size
     simp only [World.size_alloc] at z2
     obtain ⟨pb, hpb⟩ : ∃ pb, pb = pureB t d.length k.len := ⟨_, rfl⟩
     rw [← hpb]
     have HPB := hHd hpb
     clear hpb
     cases pb with
     | false =>
      have HP : Hid (SoundP f deep c0 cb w (.returned (.bool false)) w1) := hHd (by
       refine ⟨false, rfl, ?_, hG1, fun h => by cases h⟩
       rw [HRT.out, ← HPB.out]; simp)
      clear hG hGA hG1 hb1 hC0 hC1 hC2
      go_wp2
      go_ret
      exact HP.out
     | true =>
      have hself1 : SelfC w1 sb cb := hself.grown hG1 (by intro h; injection h with h; exact HNE.out h.symm)
      have hsc : w1.cell? ⟨sb, 0, none⟩ = some (.func (.func 78) #[] #[.pointer (some ⟨cb, 0, none⟩), .pointer (some ⟨sb, 0, none⟩)]) := by rw [hself1.cell]; rfl
      have hI2 : w1.cell? ⟨wr.heap.size, 2, none⟩ = some (.slice A2 k.len c2) := (hb1.cell (p := ⟨wr.heap.size, 2, none⟩) (by simp)).trans (by rw [(Blk.new wr _ _).cell]; rfl)
      have hq1 : Blk w1 cb 3 #[.int .i64 (q : Int)] := (HB.out.alloc _).below hb1 (by have := HB.out.lt; simp; omega)
      have hkv1 : FV DataI w1 (Lt B) (.slice A2 k.len c2) k := HKV.out.kept stays_I (fun g hg => hG1.block g (by have : g < B := hg; omega) (by have : g < B := hg; simp; omega)) (fun _ h => h)
      have HI := hHd (HIH.out w1 (.slice A2 k.len c2) B cb sb (deep + 1) q ((deep : Int) + 1) hkv1 hks40 (by omega) (by omega) hq4 hBc hBs (by omega) HNE.out hq1 hself1)
      clear hG hGA hb1 hC0 hC1 hC2 hself1 hq1 hkv1
      go_wp2_with fail
      refine HI.out.mono ?_
      rintro r w2 ⟨b2, rfl, hb2, hg2, hcc⟩
      have hG2 := hG1.trans hg2
      have HB2 := hHd hb2
      have HCC := hHd hcc
      have HG2 := hHd hG2
      clear hb2 hcc hG2 hg2 hG1 hI2 hsc
      cases b2 with
      | false =>
       have HP : Hid (SoundP f deep c0 cb w (.returned (.bool false)) w2) := hHd (by
        refine ⟨false, rfl, ?_, HG2.out, fun h => by cases h⟩
        have h := HB2.out
        rw [HRT.out]
        cases h1 : Fo.right (deep + 1) k with
        | false => simp
        | true =>
         rw [h1, Bool.true_and] at h
         have h2 : ¬ q + k.cnt ≤ 4096 := of_decide_eq_false h.symm
         have h3 := HQ.out
         have h4 := HCT.out
         have h5 := Fo.cnt_take_le (j + 1) f
         have h6 := Fo.len_le_cnt (Fo.drop (j + 1) f)
         have h7 := Fo.len_drop (j + 1) f
         rw [show decide (c0 + f.cnt ≤ 4096) = false from decide_eq_false (by omega), Bool.and_false])
       go_wp2
       go_ret
       exact HP.out
      | true =>
       have h := HB2.out
       have hq' : q + k.cnt ≤ 4096 := by
        have h := h.symm
        rw [Bool.and_eq_true, decide_eq_true_eq] at h
        exact h.2
       have HR' : Hid (Fo.right deep (Fo.take (j + 1) f) = true) := hHd (by
        have h := h.symm
        rw [Bool.and_eq_true] at h
        rw [HRK.out, HR.out, ← HPB.out, h.1, decide_eq_true hdp]; rfl)
       have HQ' : Hid ((q + k.cnt) + (j + 1) = c0 + f.len + (Fo.take (j + 1) f).cnt) := hHd (by have h3 := HQ.out; have h4 := HCT.out; omega)
       have HBB := hHd (HCC.out rfl)
       clear h
       go_wp2
       go_roundw
       case rel => exact ⟨j + 1, q + k.cnt, by omega, by go_num, hq', HQ', HR', HBB, HG2⟩
       case measure => simp [intOf]; omega
   ·obtain rfl : j = f.len := by omega
    have hqq : q = c0 + f.cnt := by have h := HQ.out; rw [Fo.take_all] at h; omega
    have HP : Hid (SoundP f deep c0 cb w (.returned (.bool true)) wr) := hHd (by
     refine ⟨true, rfl, ?_, HG.out, fun _ => by rw [← hqq]; exact HB.out⟩
     have h := HR.out
     rw [Fo.take_all] at h
     rw [h, decide_eq_true (by omega)]; rfl)
    clear hlt hqq
    go_wp2
    go_ret
    exact HP.out
end Go.Proofs.YtleidkpdpabkpaaGreatDoor
