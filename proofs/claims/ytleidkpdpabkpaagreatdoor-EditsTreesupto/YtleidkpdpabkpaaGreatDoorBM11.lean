/- EdtRefD StvIdt -/
import Derived.Test.YtleidkpdpabkpaaGreatDoorBM10
set_option linter.unusedSimpArgs false
set_option linter.unusedVariables false
set_option maxRecDepth 100000
set_option maxHeartbeats 8000000
namespace Go.Proofs.YtleidkpdpabkpaaGreatDoor
open Go.RowKit
section
attribute [local go_sem] Oper.semAt_some
theorem blk_set3_18 {w : World} {b : Nat} {t : TypeId} {y0 y1 y2 : Value} (h : Blk w b t #[y0, y1, y2]) (x0 x1 x2 : Value) : Blk (set3o w b 0 x0 x1 x2) b t #[x0, x1, x2] := by
 have h2 := ((h.set_ 0 x0).set_ 1 x1).set_ 2 x2
 simp only [layS] at h2
 exact h2
theorem set3o_below18 {w : World} {b o B : Nat} {x0 x1 x2 : Value} (h : B ≤ b) : Below B w (set3o w b o x0 x1 x2) :=
 (((Below.refl B w).setCell (p := ⟨b, o, none⟩) h x0).setCell (p := ⟨b, o + 1, none⟩) h x1).setCell (p := ⟨b, o + 2, none⟩) h x2
inductive Veil18 (P : Prop) : Prop
 | mk : P → Veil18 P
theorem Veil18.out {P : Prop} (h : Veil18 P) : P := by cases h; assumption
theorem least_len18 (x : Nat) (h : x < 18446744073709551616) : (leastB x).length ≤ 8 := by
 unfold leastB
 rw [bigB_length]
 exact (lenB_spec 8 x (by omega)).2.2
theorem blk_at18 {W : World} {n : Nat} (h : W.heap.size = n) (t : TypeId) (cs : Array Value) : Blk (W.alloc (.cells cs t)) n t cs := by subst h; exact Blk.new _ _ _
theorem ritem_row18 (f : NdF) (hkids : ∀ n a k, f.get? n = some (a, k) → ItemP18 k) : ItemP18 f := by
 intro t a A c w ht hrow hsz hoa hof hok
 have h0 : Below w.heap.size w ((w.alloc (.cells (cN a (.slice A f.len c)) 42)).alloc (.cells #[.int .u64 0, .string ⟨#[]⟩, .slice none 0 0] 79)) := bAl.alloc (by simp) _
 have hz : ((w.alloc (.cells (cN a (.slice A f.len c)) 42)).alloc (.cells #[.int .u64 0, .string ⟨#[]⟩, .slice none 0 0] 79)).heap.size = w.heap.size + 1 + 1 := by simp
 have h1 : Below ((w.alloc (.cells (cN a (.slice A f.len c)) 42)).alloc (.cells #[.int .u64 0, .string ⟨#[]⟩, .slice none 0 0] 79)).heap.size ((w.alloc (.cells (cN a (.slice A f.len c)) 42)).alloc (.cells #[.int .u64 0, .string ⟨#[]⟩, .slice none 0 0] 79)) (((w.alloc (.cells (cN a (.slice A f.len c)) 42)).alloc (.cells #[.int .u64 0, .string ⟨#[]⟩, .slice none 0 0] 79)).alloc (.cells #[.int .u64 0, .string (txt a.name), .slice none 0 0] 79)) := bAl
 have hb1 : Blk ((w.alloc (.cells (cN a (.slice A f.len c)) 42)).alloc (.cells #[.int .u64 0, .string ⟨#[]⟩, .slice none 0 0] 79)) w.heap.size 42 (cN a (.slice A f.len c)) := (Blk.new _ _ _).alloc _
 have hb2 : Blk ((w.alloc (.cells (cN a (.slice A f.len c)) 42)).alloc (.cells #[.int .u64 0, .string ⟨#[]⟩, .slice none 0 0] 79)) (w.heap.size + 1) 79 #[.int .u64 0, .string ⟨#[]⟩, .slice none 0 0] := blk_at18 (by simp) _ _
 obtain ⟨F1, hF1⟩ : ∃ F, F = Fo.cons 0 a.name .nil (keyI18 a .nil) := ⟨_, rfl⟩
 have HST : Hid (St18 w a f A c (.slice (some ⟨w.heap.size + 1 + 1, 0, none⟩) 1 1) (.cons 0 a.name .nil .nil) (((w.alloc (.cells (cN a (.slice A f.len c)) 42)).alloc (.cells #[.int .u64 0, .string ⟨#[]⟩, .slice none 0 0] 79)).alloc (.cells #[.int .u64 0, .string (txt a.name), .slice none 0 0] 79))) := hHd
  ⟨hb1.below h1 hb1.lt, hb2.below h1 hb2.lt, OwnF.lit18 (t := 0) (blk_at18 hz _ _) (Nat.le_refl _) (by decide), h0.trans (h1.mono h0.size), by rw [show (((w.alloc (.cells (cN a (.slice A f.len c)) 42)).alloc (.cells #[.int .u64 0, .string ⟨#[]⟩, .slice none 0 0] 79)).alloc (.cells #[.int .u64 0, .string (txt a.name), .slice none 0 0] 79)).heap.size = w.heap.size + 3 by simp]; omega⟩
 obtain ⟨kc, hkc⟩ : ∃ b, b = decide (a.key ≠ []) := ⟨_, rfl⟩
 have HKC := hHd hkc
 clear hkc
 obtain ⟨vb, hvb⟩ : ∃ b, b = (decide (a.kind ≠ 0) && decide (a.text = [])) := ⟨_, rfl⟩
 obtain ⟨wb, hwb⟩ : ∃ b, b = (decide (a.kind ≠ 0) && decide (a.text ≠ [])) := ⟨_, rfl⟩
 obtain ⟨kb, hkb⟩ : ∃ b, b = UInt8.ofNat a.kind.toNat := ⟨_, rfl⟩
 obtain ⟨F2, hF2⟩ : ∃ F, F = F1.app (if vb = true then .cons 4 (kb :: 0 :: leastB a.num) .nil .nil else .nil) := ⟨_, rfl⟩
 obtain ⟨F3, hF3⟩ : ∃ F, F = F2.app (if wb = true then .cons 4 (kb :: 1 :: a.text) .nil .nil else .nil) := ⟨_, rfl⟩
 have hF4 : F3 = inI18 leastB a .nil := by
  rw [hF3, hF2, hF1, hvb, hwb, hkb]
  unfold inI18 keyI18 valI18 valT18
  by_cases e1 : a.kind = 0
  ·by_cases e3 : a.key = [] <;> simp [e1, e3, Fo.app]
  ·by_cases e2 : a.text = [] <;> by_cases e3 : a.key = [] <;> simp [e1, e2, e3, Fo.app]
 have hl3 : F3.len ≤ 3 := by rw [hF4]; exact inI_len18 _ _
 have hl2 : F2.len ≤ 3 := by rw [hF3, Fo.len_app] at hl3; omega
 have hl1 : F1.len ≤ 3 := by rw [hF2, Fo.len_app] at hl2; omega
 have hkk : 0 ≤ a.kind ∧ a.kind ≤ 255 := by
  simp only [okN18, ndOk, Bool.and_eq_true, decide_eq_true_eq] at hok
  exact ⟨hok.1.1.1.1.2, hok.1.1.1.2⟩
 have hkw := byte_kind18 hkk.1 hkk.2
 rw [← hkb] at hkw
 have HKW := hHd hkw
 have HLS : ∀ W, Hid (Calls Tryz.prog 72 #[.int .u64 (a.num : Int)] W (RLeastP8 a.num W)) := fun W => hHd (rleast8_any a.num W hoa.num)
 have HI := hHd hkids
 have HK : Hid (RowT w.heap.size w (.slice A f.len c) f) := hHd hrow
 have HZ : Hid (f.size ≤ 1000000) := hHd hsz
 have HOF := hHd hof
 have HON : Hid (okF18 f = true) := hHd (by simp only [okN18, Bool.and_eq_true] at hok; exact hok.2)
 have HF1 := hHd hF1
 have HF2 := hHd hF2
 have HF3 := hHd hF3
 have HF4 := hHd hF4
 have HVB := hHd hvb
 have HWB := hHd hwb
 have HLE : Hid (F1.len ≤ 3 ∧ F2.len ≤ 3 ∧ F3.len ≤ 3) := hHd ⟨hl1, hl2, hl3⟩
 have HT := hHd ht
 have HNM := hHd hoa.num
 have HTX : Hid (a.text.length ≤ 1048576) := hHd hoa.text
 have tn : (txt a.name).toList = a.name := txt_toList _
 have tk : (txt a.key).toList = a.key := txt_toList _
 have tt : (txt a.text).toList = a.text := txt_toList _
 clear ht hrow hsz hoa hof hok h0 hz h1 hb1 hb2 hkids hvb hwb hkb hF1 hF2 hF3 hF4 hl1 hl2 hl3 hkk hkw
 go_enter Tryz.func40, Tryz.ntmps40
 go_upto_region 2 with (fail)
 revert HST
 generalize (((w.alloc (.cells (cN a (.slice A f.len c)) 42)).alloc (.cells #[.int .u64 0, .string ⟨#[]⟩, .slice none 0 0] 79)).alloc (.cells #[.int .u64 0, .string (txt a.name), .slice none 0 0] 79)) = w1
 intro HST
 have p1 : w1.cell? ⟨w.heap.size, 1, none⟩ = some (.string (txt a.key)) := (HST.out.1.cell 1).trans rfl
 go_cut [13] (fun b wx => b = .bool kc ∧ Hid (St18 w a f A c (.slice (some ⟨w.heap.size + 1 + 1, 0, none⟩) 1 1) (.cons 0 a.name .nil .nil) wx))
 case first =>
  by_cases hk : a.key = []
  ·have e1 : (a.key == []) = true := by rw [hk]; rfl
   have e2 : a.key.isEmpty = true := by rw [hk]; rfl
   have HE : Hid (kc = false) := hHd (by rw [HKC.out]; simp [hk])
   clear hk
   go_wp2_with fail
   go_meet
   exact ⟨by rw [HE.out], HST⟩
  ·have e1 : (a.key == []) = false := by cases e : a.key with | nil => exact absurd e hk | cons => rfl
   have e2 : a.key.isEmpty = false := by cases e : a.key with | nil => exact absurd e hk | cons => rfl
   have HE : Hid (kc = true) := hHd (by rw [HKC.out]; simp [hk])
   clear hk
   go_wp2_with fail
   go_meet
   exact ⟨by rw [HE.out], HST⟩
 case rest =>
 obtain ⟨rfl, HST⟩ := hcut
 obtain ⟨wk, hwk⟩ : ∃ wk, wk = wc := ⟨_, rfl⟩
 subst hwk
 clear p1
 have p1 : wk.cell? ⟨w.heap.size, 1, none⟩ = some (.string (txt a.key)) := (HST.out.1.cell 1).trans rfl
 go_upto_if 13 with (fail)
 go_cut [5] (fun u wx => ∃ v : Value, v = u ∧ Hid (St18 w a f A c v F1 wx))
 case first =>
  cases kc with
  | false =>
   have HE : Hid (F1 = .cons 0 a.name .nil .nil) := hHd (by rw [HF1.out]; unfold keyI18; rw [if_pos (by simpa using HKC.out)])
   go_wp2_with fail
   go_meet
   exact ⟨_, rfl, by rw [HE.out]; exact HST⟩
  | true =>
   have HE : Hid (F1 = (Fo.cons 0 a.name .nil .nil).app (.cons 2 a.key .nil .nil)) := hHd (by rw [HF1.out]; unfold keyI18; rw [if_neg (by simpa using HKC.out)]; rfl)
   have HSA : Hid (St18 w a f A c (.slice (some ⟨w.heap.size + 1 + 1, 0, none⟩) 1 1) (.cons 0 a.name .nil .nil) (wk.alloc (.cells #[.int .u64 2, .string (txt a.key), .slice none 0 0] 79))) := hHd (HST.out.go bAl)
   have HBL : Hid (Blk (wk.alloc (.cells #[.int .u64 2, .string (txt a.key), .slice none 0 0] 79)) wk.heap.size 79 #[.int .u64 ((2 : Nat) : Int), .string (txt a.key), .slice none 0 0]) := hHd (Blk.new _ _ _)
   go_wp2_with (at_builtin; refine wpList_append_it stays_R one_R Tryz.underlying47 Tryz.infoJ zeroI rfl (.tmp 14) (.tmp 18) rfl rfl (w.heap.size + 2) (.slice (some ⟨w.heap.size + 1 + 1, 0, none⟩) 1 1) (.cons 0 a.name .nil .nil) rfl HSA.out.2.2.1 wk.heap.size rfl 2 a.key .nil (.string (txt a.key)) (.slice none 0 0) HBL.out (by decide) rfl (FV.nil _ _) (by simp only [Fo.len]; omega) (by simp only [Fo.len]; omega) HSA.out.2.2.2.2 ?_)
   intro v9 w9 hap
   have H9 := hHd (HSA.out.app hap)
   clear hap HBL HSA p1
   go_wp2_with fail
   go_meet
   exact ⟨_, rfl, by rw [HE.out]; exact H9⟩
 case rest =>
 obtain ⟨u, rfl, HST⟩ := hcut
 clear p1
 go_upto_region 4 with (fail)
 obtain ⟨w2, hw2⟩ : ∃ w2, w2 = wc := ⟨_, rfl⟩
 subst hw2
 go_cut [29] (fun b wx => b = .bool vb ∧ Hid (St18 w a f A c u F1 wx))
 case first =>
  have q2 : w2.cell? ⟨w.heap.size, 2, none⟩ = some (.int .i64 a.kind) := (HST.out.1.cell 2).trans rfl
  have q4 : w2.cell? ⟨w.heap.size, 4, none⟩ = some (.string (txt a.text)) := (HST.out.1.cell 4).trans rfl
  by_cases hk : a.kind = 0
  ·have k1 : (a.kind == 0) = true := beq_iff_eq.2 hk
   have k2 : (a.kind != 0) = false := by simp [hk]
   have HE : Hid (vb = false) := hHd (by rw [HVB.out, hk]; rfl)
   clear hk
   go_wp2_with fail
   go_meet
   exact ⟨by rw [HE.out], HST⟩
  ·have k1 : (a.kind == 0) = false := beq_eq_false_iff_ne.2 hk
   have k2 : (a.kind != 0) = true := by simp [hk]
   by_cases hx : a.text = []
   ·have e1 : (a.text == []) = true := by rw [hx]; rfl
    have e2 : a.text.isEmpty = true := by rw [hx]; rfl
    have HE : Hid (vb = true) := hHd (by rw [HVB.out]; simp [hk, hx])
    clear hk hx
    go_wp2_with fail
    go_meet
    exact ⟨by rw [HE.out], HST⟩
   ·have e1 : (a.text == []) = false := by cases e : a.text with | nil => exact absurd e hx | cons => rfl
    have e2 : a.text.isEmpty = false := by cases e : a.text with | nil => exact absurd e hx | cons => rfl
    have HE : Hid (vb = false) := hHd (by rw [HVB.out]; simp [hk, hx])
    clear hk hx
    go_wp2_with fail
    go_meet
    exact ⟨by rw [HE.out], HST⟩
 case rest =>
 obtain ⟨rfl, HST⟩ := hcut
 obtain ⟨w3, hw3⟩ : ∃ w3, w3 = wc := ⟨_, rfl⟩
 subst hw3
 go_upto_if 29 with (fail)
 go_cut [5] (fun u wx => ∃ v : Value, v = u ∧ Hid (St18 w a f A c v F2 wx))
 case first =>
  cases vb with
  | false =>
   have HE : Hid (F2 = F1) := hHd (by rw [HF2.out]; simp [Fo.app_nil])
   go_wp2_with fail
   go_meet
   exact ⟨_, rfl, by rw [HE.out]; exact HST⟩
  | true =>
   have HE : Hid (F2 = F1.app (.cons 4 (kb :: 0 :: leastB a.num) .nil .nil)) := hHd (by rw [HF2.out]; rfl)
   have HWW : Hid (Below w3.heap.size w3 w3.drew) := hHd (Below.refl _ _).drew
   have hkv := HKW.out
   have hcat : txt [kb, 0] ++ txt (leastB a.num) = txt (kb :: 0 :: leastB a.num) := txt_catS [kb, 0] (leastB a.num)
   have s1 : (txt [kb, 0]).size = 2 := txt_size _
   have HLL : Hid ((leastB a.num).length ≤ 8) := hHd (least_len18 _ HNM.out)
   have s2 := txt_size (leastB a.num)
   have s3 := HLL.out
   have s4 : ¬ 9223372036854775807 < 2 + (leastB a.num).length := by omega
   go_upto_region 5 with (fail)
   refine wp_region_noPanic ?_
   refine wp_region_held_drew (S := fun _ => True) (by kernel_rfl) trivial (fun hS => ?_)
   refine held_more (S' := fun w' => Below (w.heap.size + 2) w3 w') (fun _ _ => trivial) _ _ _ _ ?_
   replace hS := HWW.out.mono HST.out.2.2.2.2
   refine tkH 0 hS ?_
   refine tkH 1 hS ?_
   refine tkH 2 hS ?_
   refine tkH 3 hS ?_ (hy := fun w hSw => by have q2 := ((HST.out.1.below hSw (by omega)).cell 2).trans rfl; (go_simp <;> with_reducible rfl))
   refine tkH 4 hS ?_
   refine tkH 7 hS ?_
   refine tkH 8 hS ?_
   refine tkH 9 hS ?_ (hy := fun w hSw => by have q3 := ((HST.out.1.below hSw (by omega)).cell 3).trans rfl; (go_simp <;> with_reducible rfl))
   refine rdy [5, 10] (rdC (fun K hK => ?str_0) (rdC (fun K hK => ?str_1) .nil))
   case' str_0 =>
    have HRD : Hid (Rd ((w3.drew).alloc (.cells #[byteV kb, .int .u8 0] 5)) (w3.heap.size) (.slice (some ⟨(w3.heap.size), 0, none⟩) 2 2) [kb, 0]) := hHd (lit2_18 _ kb 0)
    have HPB : Hid (w3.heap.size ≤ (w3.heap.size)) := hHd HWW.out.size
    have hb5 : Below (w3.drew).heap.size (w3.drew) ((w3.drew).alloc (.cells #[byteV kb, .int .u8 0] 5)) := bAl
    have HWW := hHd (HWW.out.trans (hb5.mono HWW.out.size))
    clear hb5
    go_simp
    refine hK.out _ _ ?sr_0 (fun hS => ?_)
    case sr_0 => (exact HWW.out.mono HST.out.2.2.2.2)
    clear hK K
    (try simp only [Act.put, layS])
    refine held_more (S' := fun w' => Below (w.heap.size + 2) w3 w' ∧ Rd w' w3.heap.size (.slice (some ⟨w3.heap.size, 0, none⟩) 2 2) [kb, 0]) (fun _ h => h.1) _ _ _ _ ?_
    replace hS := And.intro (HWW.out.mono HST.out.2.2.2.2) HRD.out
    refine tkH 6 hS ?_ (hy := fun w hSw => by have hc : (convert 25 9 _).run Tryz.prog _ = .ok (.string (txt [kb, 0])) _ := str_of hSw.2; (go_simp <;> with_reducible rfl))
    refine rdy1 10 fun K hK => ?_
    go_simp
    refine (HLS _).out.mono ?_
    rintro r w10 ⟨rfl, hb10⟩
    have HRD := hHd (HRD.out.below' hb10)
    have HWW := hHd (HWW.out.trans (hb10.mono HWW.out.size))
    clear hb10
    go_wp2_with fail
    refine hK.out _ _ ?sr_2 (fun hS => ?_)
    case sr_2 => (exact ⟨HWW.out.mono HST.out.2.2.2.2, HRD.out⟩)
    clear hK K
    (try simp only [Act.put, layS])
    refine tkH 11 hS ?_
    refine tkH 12 hS ?_
    refine rdy1 13 fun K hK => ?_
    have HBL : Hid (Blk ((w10).alloc (.cells #[.int .u64 4, .string (txt (kb :: 0 :: leastB a.num)), .slice none 0 0] 79)) (w10.heap.size) 79 #[.int .u64 ((4 : Nat) : Int), .string (txt (kb :: 0 :: leastB a.num)), .slice none 0 0]) := hHd (blk_at18 (by simp) _ _)
    have hb13 : Below (w10).heap.size (w10) ((w10).alloc (.cells #[.int .u64 4, .string (txt (kb :: 0 :: leastB a.num)), .slice none 0 0] 79)) := bAl
    have HRD := hHd (HRD.out.below' hb13)
    have HWW := hHd (HWW.out.trans (hb13.mono HWW.out.size))
    have HSA := hHd (HST.out.go HWW.out)
    clear hb13
    go_simp
    refine hK.out _ _ ?sr_3 (fun hS => ?_)
    case sr_3 => (exact ⟨HWW.out.mono HST.out.2.2.2.2, HRD.out⟩)
    clear hK K
    (try simp only [Act.put, layS])
    refine rdy1 14 fun K hK => ?_
    refine wp_append_it stays_R one_R Tryz.underlying47 Tryz.infoJ zeroI (.tmp 30) (.tmp 43) rfl rfl (w.heap.size + 2) u F1 rfl HSA.out.2.2.1 _ rfl 4 (kb :: 0 :: leastB a.num) .nil (.string (txt (kb :: 0 :: leastB a.num))) (.slice none 0 0) HBL.out (by decide) rfl (FV.nil _ _) (by have := HLE.out.1; omega) (by have := HLE.out.1; omega) HSA.out.2.2.2.2 ?_
    intro v9 w9 hap
    have H9 := hHd (HSA.out.app hap)
    have HR9 := hHd (HRD.out.heap' (fun hlt => hap.2.1.block _ hlt (fun e => by have h5 := (HST.out.2.2.1.lt _ e.symm).2; have h6 := HPB.out; omega)))
    have HW9 := hHd ((HWW.out.mono HST.out.2.2.2.2).trans (hap.below HSA.out.2.2.1 HSA.out.2.2.2.2))
    clear hap
    refine hK.out _ _ ?sr_4 (fun hS => ?_)
    case sr_4 => (exact ⟨HW9.out, HR9.out⟩)
    clear hK K
    (try simp only [Act.put, layS])
    refine tkH 15 hS ?_
    refine wpAnyH_done (by kernel_rfl) ?_ _
    refine NoPanic.normal ?_
   case' str_1 =>
    go_simp
    refine (HLS _).out.mono ?_
    rintro r w10 ⟨rfl, hb10⟩
    have HWW := hHd (HWW.out.trans (hb10.mono HWW.out.size))
    clear hb10
    go_wp2_with fail
    refine hK.out _ _ ?sr_1 (fun hS => ?_)
    case sr_1 => (exact HWW.out.mono HST.out.2.2.2.2)
    clear hK K
    (try simp only [Act.put, layS])
    refine rdy1 5 fun K hK => ?_
    have HRD : Hid (Rd ((w10).alloc (.cells #[byteV kb, .int .u8 0] 5)) (w10.heap.size) (.slice (some ⟨(w10.heap.size), 0, none⟩) 2 2) [kb, 0]) := hHd (lit2_18 _ kb 0)
    have HPB : Hid (w3.heap.size ≤ (w10.heap.size)) := hHd HWW.out.size
    have hb5 : Below (w10).heap.size (w10) ((w10).alloc (.cells #[byteV kb, .int .u8 0] 5)) := bAl
    have HWW := hHd (HWW.out.trans (hb5.mono HWW.out.size))
    clear hb5
    go_simp
    refine hK.out _ _ ?sr_5 (fun hS => ?_)
    case sr_5 => (exact HWW.out.mono HST.out.2.2.2.2)
    clear hK K
    (try simp only [Act.put, layS])
    refine held_more (S' := fun w' => Below (w.heap.size + 2) w3 w' ∧ Rd w' w10.heap.size (.slice (some ⟨w10.heap.size, 0, none⟩) 2 2) [kb, 0]) (fun _ h => h.1) _ _ _ _ ?_
    replace hS := And.intro (HWW.out.mono HST.out.2.2.2.2) HRD.out
    refine tkH 6 hS ?_ (hy := fun w hSw => by have hc : (convert 25 9 _).run Tryz.prog _ = .ok (.string (txt [kb, 0])) _ := str_of hSw.2; (go_simp <;> with_reducible rfl))
    refine tkH 11 hS ?_
    refine tkH 12 hS ?_
    refine rdy1 13 fun K hK => ?_
    have HBL : Hid (Blk (((w10.alloc (.cells #[byteV kb, .int .u8 0] 5))).alloc (.cells #[.int .u64 4, .string (txt (kb :: 0 :: leastB a.num)), .slice none 0 0] 79)) (w10.heap.size + 1) 79 #[.int .u64 ((4 : Nat) : Int), .string (txt (kb :: 0 :: leastB a.num)), .slice none 0 0]) := hHd (blk_at18 (by simp) _ _)
    have hb13 : Below ((w10.alloc (.cells #[byteV kb, .int .u8 0] 5))).heap.size ((w10.alloc (.cells #[byteV kb, .int .u8 0] 5))) (((w10.alloc (.cells #[byteV kb, .int .u8 0] 5))).alloc (.cells #[.int .u64 4, .string (txt (kb :: 0 :: leastB a.num)), .slice none 0 0] 79)) := bAl
    have HRD := hHd (HRD.out.below' hb13)
    have HWW := hHd (HWW.out.trans (hb13.mono HWW.out.size))
    have HSA := hHd (HST.out.go HWW.out)
    clear hb13
    go_simp
    refine hK.out _ _ ?sr_6 (fun hS => ?_)
    case sr_6 => (exact ⟨HWW.out.mono HST.out.2.2.2.2, HRD.out⟩)
    clear hK K
    (try simp only [Act.put, layS])
    refine rdy1 14 fun K hK => ?_
    refine wp_append_it stays_R one_R Tryz.underlying47 Tryz.infoJ zeroI (.tmp 30) (.tmp 43) rfl rfl (w.heap.size + 2) u F1 rfl HSA.out.2.2.1 _ rfl 4 (kb :: 0 :: leastB a.num) .nil (.string (txt (kb :: 0 :: leastB a.num))) (.slice none 0 0) HBL.out (by decide) rfl (FV.nil _ _) (by have := HLE.out.1; omega) (by have := HLE.out.1; omega) HSA.out.2.2.2.2 ?_
    intro v9 w9 hap
    have H9 := hHd (HSA.out.app hap)
    have HR9 := hHd (HRD.out.heap' (fun hlt => hap.2.1.block _ hlt (fun e => by have h5 := (HST.out.2.2.1.lt _ e.symm).2; have h6 := HPB.out; omega)))
    have HW9 := hHd ((HWW.out.mono HST.out.2.2.2.2).trans (hap.below HSA.out.2.2.1 HSA.out.2.2.2.2))
    clear hap
    refine hK.out _ _ ?sr_7 (fun hS => ?_)
    case sr_7 => (exact ⟨HW9.out, HR9.out⟩)
    clear hK K
    (try simp only [Act.put, layS])
    refine tkH 15 hS ?_
    refine wpAnyH_done (by kernel_rfl) ?_ _
    refine NoPanic.normal ?_
   all_goals (clear hS; go_wp2_with fail; go_meet; exact ⟨_, rfl, by rw [HE.out]; exact H9⟩)
 case rest =>
 obtain ⟨u, rfl, HST⟩ := hcut
 obtain ⟨w4, hw4⟩ : ∃ w4, w4 = wc := ⟨_, rfl⟩
 subst hw4
 go_upto_region 6 with (fail)
 go_cut [54] (fun b wx => b = .bool wb ∧ Hid (St18 w a f A c u F2 wx))
 case first =>
  have q2 : w4.cell? ⟨w.heap.size, 2, none⟩ = some (.int .i64 a.kind) := (HST.out.1.cell 2).trans rfl
  have q4 : w4.cell? ⟨w.heap.size, 4, none⟩ = some (.string (txt a.text)) := (HST.out.1.cell 4).trans rfl
  by_cases hk : a.kind = 0
  ·have k1 : (a.kind == 0) = true := beq_iff_eq.2 hk
   have k2 : (a.kind != 0) = false := by simp [hk]
   have HE : Hid (wb = false) := hHd (by rw [HWB.out, hk]; rfl)
   clear hk
   go_wp2_with fail
   go_meet
   exact ⟨by rw [HE.out], HST⟩
  ·have k1 : (a.kind == 0) = false := beq_eq_false_iff_ne.2 hk
   have k2 : (a.kind != 0) = true := by simp [hk]
   by_cases hx : a.text = []
   ·have e1 : (a.text == []) = true := by rw [hx]; rfl
    have e2 : a.text.isEmpty = true := by rw [hx]; rfl
    have HE : Hid (wb = false) := hHd (by rw [HWB.out]; simp [hk, hx])
    clear hk hx
    go_wp2_with fail
    go_meet
    exact ⟨by rw [HE.out], HST⟩
   ·have e1 : (a.text == []) = false := by cases e : a.text with | nil => exact absurd e hx | cons => rfl
    have e2 : a.text.isEmpty = false := by cases e : a.text with | nil => exact absurd e hx | cons => rfl
    have HE : Hid (wb = true) := hHd (by rw [HWB.out]; simp [hk, hx])
    clear hk hx
    go_wp2_with fail
    go_meet
    exact ⟨by rw [HE.out], HST⟩
 case rest =>
 obtain ⟨rfl, HST⟩ := hcut
 obtain ⟨w5, hw5⟩ : ∃ w5, w5 = wc := ⟨_, rfl⟩
 subst hw5
 go_upto_if 54 with (fail)
 go_cut [5] (fun u wx => ∃ v : Value, v = u ∧ Hid (St18 w a f A c v F3 wx))
 case first =>
  cases wb with
  | false =>
   have HE : Hid (F3 = F2) := hHd (by rw [HF3.out]; simp [Fo.app_nil])
   go_wp2_with fail
   go_meet
   exact ⟨_, rfl, by rw [HE.out]; exact HST⟩
  | true =>
   have HE : Hid (F3 = F2.app (.cons 4 (kb :: 1 :: a.text) .nil .nil)) := hHd (by rw [HF3.out]; rfl)
   have hkv := HKW.out
   have hcat : txt [kb, 1] ++ txt a.text = txt (kb :: 1 :: a.text) := txt_catS [kb, 1] a.text
   have s1 : (txt [kb, 1]).size = 2 := txt_size _
   have s2 := txt_size a.text
   have s3 := HTX.out
   have s4 : ¬ 9223372036854775807 < 2 + a.text.length := by omega
   have hst : (convert 25 9 (.slice (some ⟨w5.heap.size, 0, none⟩) 2 2)).run Tryz.prog (w5.alloc (.cells #[byteV kb, .int .u8 1] 5)) = .ok (.string (txt [kb, 1])) (w5.alloc (.cells #[byteV kb, .int .u8 1] 5)) := str_of (lit2_18 w5 kb 1)
   have hb5 : Below w5.heap.size w5 (w5.alloc (.cells #[byteV kb, .int .u8 1] 5)) := bAl
   have hb6 : Below (w5.alloc (.cells #[byteV kb, .int .u8 1] 5)).heap.size (w5.alloc (.cells #[byteV kb, .int .u8 1] 5)) ((w5.alloc (.cells #[byteV kb, .int .u8 1] 5)).alloc (.cells #[.int .u64 4, .string (txt (kb :: 1 :: a.text)), .slice none 0 0] 79)) := bAl
   have hz5 : (w5.alloc (.cells #[byteV kb, .int .u8 1] 5)).heap.size = w5.heap.size + 1 := by simp
   have HSB : Hid (St18 w a f A c u F2 (w5.alloc (.cells #[byteV kb, .int .u8 1] 5))) := hHd (HST.out.go hb5)
   have HSA : Hid (St18 w a f A c u F2 ((w5.alloc (.cells #[byteV kb, .int .u8 1] 5)).alloc (.cells #[.int .u64 4, .string (txt (kb :: 1 :: a.text)), .slice none 0 0] 79))) := hHd (HSB.out.go hb6)
   have HBL : Hid (Blk ((w5.alloc (.cells #[byteV kb, .int .u8 1] 5)).alloc (.cells #[.int .u64 4, .string (txt (kb :: 1 :: a.text)), .slice none 0 0] 79)) (w5.heap.size + 1) 79 #[.int .u64 ((4 : Nat) : Int), .string (txt (kb :: 1 :: a.text)), .slice none 0 0]) := hHd (blk_at18 hz5 _ _)
   have q2 : w5.cell? ⟨w.heap.size, 2, none⟩ = some (.int .i64 a.kind) := (HST.out.1.cell 2).trans rfl
   have q4 : (w5.alloc (.cells #[byteV kb, .int .u8 1] 5)).cell? ⟨w.heap.size, 4, none⟩ = some (.string (txt a.text)) := (HSB.out.1.cell 4).trans rfl
   clear hb5 hb6 hz5
   unfold byteV at hst q4
   go_wp2_with (at_builtin; refine wpList_append_it stays_R one_R Tryz.underlying47 Tryz.infoJ zeroI rfl (.tmp 55) (.tmp 67) rfl rfl (w.heap.size + 2) u F2 rfl HSA.out.2.2.1 (w5.heap.size + 1) rfl 4 (kb :: 1 :: a.text) .nil (.string (txt (kb :: 1 :: a.text))) (.slice none 0 0) HBL.out (by decide) rfl (FV.nil _ _) (by have := HLE.out.2.1; omega) (by have := HLE.out.2.1; omega) HSA.out.2.2.2.2 ?_)
   intro v9 w9 hap
   have H9 := hHd (HSA.out.app hap)
   clear hap HBL HSA HSB q2 q4 hst
   go_wp2_with fail
   go_meet
   exact ⟨_, rfl, by rw [HE.out]; exact H9⟩
 case rest =>
 obtain ⟨u, rfl, HST⟩ := hcut
 obtain ⟨w6, hw6⟩ : ∃ w6, w6 = wc := ⟨_, rfl⟩
 subst hw6
 have H0 : Hid (St18 w a f A c u (F3.app (itmF18 leastB (Fr.take 0 f))) w6) := hHd (by
  have h := HST.out
  rwa [show F3.app (itmF18 leastB (Fr.take 0 f)) = F3 by cases f <;> exact Fo.app_nil F3])
 clear HST
 go_wp2
 go_loopw [5, 6] (fun u i wr => ∃ (v : Value) (j : Nat), j ≤ f.len ∧ v = u ∧ i = .int .i64 (j : Int) ∧ Hid (St18 w a f A c v (F3.app (itmF18 leastB (Fr.take j f))) wr)) (fun _ i _ => f.len - (intOf i).toNat)
 case atStart => exact ⟨u, 0, Nat.zero_le _, rfl, rfl, H0⟩
 case round =>
  clear H0
  obtain ⟨v, j, hj, rfl, rfl, HST⟩ := hrel
  obtain ⟨w7, hw7⟩ : ∃ w7, w7 = wr := ⟨_, rfl⟩
  subst hw7
  have p5 : w7.cell? ⟨w.heap.size, 5, none⟩ = some (.slice A f.len c) := (HST.out.1.cell 5).trans rfl
  by_cases hlt : j < f.len
  ·obtain ⟨a1, q, hg⟩ := Fr.get_some hlt
   obtain ⟨b, o, A', c', rfl, -, -, hbl, hrow, hcl⟩ := HK.out.at hg
   have hbw := HST.out.2.2.2.1
   have hcell : ∀ i u, (ndC a1 (.slice A' q.len c'))[i]? = some u → w7.cell? ⟨b, o + j * 6 + i, none⟩ = some u := fun i u hu => (hbw.cell (p := ⟨b, o + j * 6 + i, none⟩) hbl).trans (hcl i u hu)
   have q0 : (w7).cell? ⟨b, o + j * 6, none⟩ = _ := hcell 0 _ rfl
   have q1 : (w7).cell? ⟨b, o + j * 6 + 1, none⟩ = _ := hcell 1 _ rfl
   have q2 : (w7).cell? ⟨b, o + j * 6 + 2, none⟩ = _ := hcell 2 _ rfl
   have q3 : (w7).cell? ⟨b, o + j * 6 + 3, none⟩ = _ := hcell 3 _ rfl
   have q4 : (w7).cell? ⟨b, o + j * 6 + 4, none⟩ = _ := hcell 4 _ rfl
   have q5 : (w7).cell? ⟨b, o + j * 6 + 5, none⟩ = _ := hcell 5 _ rfl
   have i1 : (0 : Int) ≤ (j : Int) := by omega
   have i2 : (j : Int) < (f.len : Int) := by omega
   have i3 : (f.len : Int) ≤ 1000000 := by have := HZ.out; have := Fr.len_size f; omega
   obtain ⟨K, hK⟩ : ∃ K, K = inI18 leastB a1 (itmF18 leastB q) := ⟨_, rfl⟩
   obtain ⟨n, hn⟩ : ∃ n, n = K.len := ⟨_, rfl⟩
   obtain ⟨Fj, hFj⟩ : ∃ F, F = F3.app (itmF18 leastB (Fr.take j f)) := ⟨_, rfl⟩
   have hLj : Fj.len ≤ 1000003 := by
    have h1 := take_len18 j f
    have h2 := HLE.out.2.2
    rw [hFj, Fo.len_app, itm_len18]
    omega
   have HNX : Hid (F3.app (itmF18 leastB (Fr.take (j + 1) f)) = Fj.app (.cons 7 [] K .nil)) := hHd (by rw [itm_take18 _ hg, hFj, hK, Fo.app_assoc])
   rw [← hFj] at HST
   have HI1 : Hid (Calls Tryz.prog 40 #[.int .u64 7, .agg (cN a1 (.slice A' q.len c'))] w7 (ItmP18 7 K w7)) := hHd (by
    have hok := okF_at.1 HON.out j hlt
    unfold okAt18 at hok
    rw [hg] at hok
    have hfd := (HOF.out.at hg)
    rw [hK]
    exact HI.out j a1 q hg 7 a1 A' c' w7 (by decide) (hrow.under hbw (Nat.le_refl _) hbw.size) (by have := HZ.out; have := Fr.size_get hg; omega) hfd.1 hfd.2 hok)
   have HLJ := hHd hLj
   have HNN := hHd hn
   have HLT : Hid (∀ k, v.ownBlock = some k → k < w7.heap.size) := hHd (fun k e => (HST.out.2.2.1.lt k e).2)
   clear hcl hg hrow hcell hbl hK hFj hLj hbw
   go_wp2_with fail
   refine HI1.out.mono ?_
   rintro r w8 ⟨A8, c8, rfl, hfv, hb8⟩
   rw [← hn]
   rw [← hn] at hfv
   have hb9 : Below w8.heap.size w8 (w8.alloc (.cells #[.int .u64 7, .string ⟨#[]⟩, .slice A8 n c8] 79)) := bAl
   have HSA : Hid (St18 w a f (some ⟨b, o, none⟩) c v Fj (w8.alloc (.cells #[.int .u64 7, .string ⟨#[]⟩, .slice A8 n c8] 79))) := hHd ((HST.out.go hb8).go hb9)
   have HBL : Hid (Blk (w8.alloc (.cells #[.int .u64 7, .string ⟨#[]⟩, .slice A8 n c8] 79)) w8.heap.size 79 #[.int .u64 ((7 : Nat) : Int), .string ⟨#[]⟩, .slice A8 n c8]) := hHd (Blk.new _ _ _)
   have HFV : Hid (FV DataR (w8.alloc (.cells #[.int .u64 7, .string ⟨#[]⟩, .slice A8 n c8] 79)) (ItsI (w.heap.size + 2) (w8.alloc (.cells #[.int .u64 7, .string ⟨#[]⟩, .slice A8 n c8] 79)) v) (.slice A8 n c8) K) := hHd (hfv.kept stays_R (fun g hg => Below.heap_alloc _ _ _ hg.2) (fun g hg => ⟨by have := hg.1; have := HST.out.2.2.2.2; omega, Nat.lt_of_lt_of_le hg.2 (by simp), fun e => by have := HLT.out g e.symm; have := hg.1; omega⟩))
   clear hb8 hb9 hfv p5 q0 q1 q2 q3 q4 q5 HI1 hn
   go_wp2_with (at_builtin; refine wpList_append_it stays_R one_R Tryz.underlying47 Tryz.infoJ zeroI rfl (.tmp 76) (.tmp 83) rfl rfl (w.heap.size + 2) v Fj rfl HSA.out.2.2.1 w8.heap.size rfl 7 [] K (.string ⟨#[]⟩) (.slice A8 n c8) HBL.out (by decide) rfl HFV.out (by have := HLJ.out; omega) (by have := HLJ.out; omega) HSA.out.2.2.2.2 ?_)
   intro v9 w9 hap
   have H9 := hHd (HSA.out.app hap)
   rw [← HNX.out] at H9
   clear hap HBL HSA HFV HST
   go_wp2_with fail
   go_roundw
   case rel => exact ⟨v9, j + 1, by omega, rfl, by go_num, H9⟩
   case measure => simp [intOf]; omega
  ·obtain rfl : j = f.len := by omega
   have i2 : ¬ (f.len : Int) < (f.len : Int) := by omega
   have HFE : Hid (F3.app (itmF18 leastB (Fr.take f.len f)) = inI18 leastB a (itmF18 leastB f)) := hHd (by rw [Fr.take_all, HF4.out]; exact (inI_app18 leastB a (itmF18 leastB f)).symm)
   rw [HFE.out] at HST
   obtain ⟨K, hK⟩ : ∃ K, K = inI18 leastB a (itmF18 leastB f) := ⟨_, rfl⟩
   rw [← hK] at HST
   obtain ⟨A8, c8, rfl⟩ := HST.out.2.2.1.shape
   obtain ⟨n, hn⟩ : ∃ n, n = K.len := ⟨_, rfl⟩
   have HNN := hHd hn
   have HKE := hHd hK
   rw [← hn] at HST
   rw [← hn]
   have V9 : Veil18 (Blk (set3o w7 (w.heap.size + 1) 0 (.int .u64 (t : Int)) (.string ⟨#[]⟩) (.slice A8 n c8)) (w.heap.size + 1) 79 #[.int .u64 (t : Int), .string ⟨#[]⟩, .slice A8 n c8] ∧ FV DataR (set3o w7 (w.heap.size + 1) 0 (.int .u64 (t : Int)) (.string ⟨#[]⟩) (.slice A8 n c8)) (MineI w.heap.size (set3o w7 (w.heap.size + 1) 0 (.int .u64 (t : Int)) (.string ⟨#[]⟩) (.slice A8 n c8))) (.slice A8 n c8) K ∧ Below w.heap.size w (set3o w7 (w.heap.size + 1) 0 (.int .u64 (t : Int)) (.string ⟨#[]⟩) (.slice A8 n c8))) := .mk
    ⟨blk_set3_18 HST.out.2.1 _ _ _, (HST.out.2.2.1.fv stays_R).kept stays_R (fun g hg => set3o_far (by have := hg.1; omega)) (fun g hg => ⟨by have := hg.1; omega, by rw [set3o_size]; exact hg.2⟩), HST.out.2.2.2.1.trans (set3o_below18 (Nat.le_succ _))⟩
   have fz0 : w7.frozen? ⟨w.heap.size + 1, 0, none⟩ = false := HST.out.2.1.frozen 0
   have fz1 : w7.frozen? ⟨w.heap.size + 1, 1, none⟩ = false := HST.out.2.1.frozen 1
   have fz2 : w7.frozen? ⟨w.heap.size + 1, 2, none⟩ = false := HST.out.2.1.frozen 2
   obtain ⟨fq0, fq1, fq2⟩ := cl3 HST.out.2.1
   clear HST hlt hn hK
   go_wp2_with fail
   refine bodyPost_ret (results_cell_row rfl _ _ (w.heap.size + 1) 79 _ (0, 0) _ rfl V9.out.1 Tryz.underlying79 rfl (by kernel_rfl)) rfl ?_
   rw [← HKE.out]
   exact ⟨A8, c8, by rw [HNN.out], by rw [← HNN.out]; exact V9.out.2.1, V9.out.2.2⟩
theorem ritem18_any (f : NdF) : ItemP18 f := Fr.byKids (P := ItemP18) (fun f h => ritem_row18 f h) f
end
def SmP (c : UInt8) (w : World) (r : Ending) (w' : World) : Prop := r = .returned (.bool (smB c)) ∧ w = w'
theorem letter_any (c : UInt8) (w : World) : Calls Tryz.prog 100 #[.int .u8 (c.toNat : Int)] w (SmP c w) := by
 rcases sm_cases c with ⟨hb, g1, g2⟩ | ⟨hb, g⟩
 ·have HB := hHd hb
  clear hb
  obtain ⟨m, hm⟩ : ∃ m, m = c.toNat := ⟨_, rfl⟩
  rw [← hm] at g1 g2 ⊢
  clear hm
  go_enter Tryz.func100, Tryz.ntmps100
  go_wp2
  go_ret
  exact ⟨by rw [HB.out]; rfl, rfl⟩
 ·have HB := hHd hb
  clear hb
  obtain ⟨m, hm⟩ : ∃ m, m = c.toNat := ⟨_, rfl⟩
  rw [← hm] at g ⊢
  clear hm
  rcases g with g | ⟨g1, g2⟩
  all_goals
   go_enter Tryz.func100, Tryz.ntmps100
   go_wp2
   go_ret
   exact ⟨by rw [HB.out]; rfl, rfl⟩
theorem nm_ways (c : UInt8) (h : smB c = false) : (nmB c = true ∧ ((48 ≤ (c.toNat : Int) ∧ (c.toNat : Int) ≤ 57) ∨ (¬ 48 ≤ (c.toNat : Int) ∧ ((c.toNat : Int) == 45) = true))) ∨
  (nmB c = false ∧ ((c.toNat : Int) == 45) = false ∧ (¬ 48 ≤ (c.toNat : Int) ∨ (48 ≤ (c.toNat : Int) ∧ ¬ (c.toNat : Int) ≤ 57))) := by
 rcases nm_cases h with ⟨h1, h2⟩ | ⟨h1, h2, h3⟩
 ·refine .inl ⟨h1, ?_⟩
  rcases h2 with h2 | ⟨h2, h3, h4⟩
  ·have : (c.toNat : Int) = 45 := beq_iff_eq.1 h2
   exact .inr ⟨by omega, h2⟩
  ·exact .inl ⟨by omega, by omega⟩
 ·refine .inr ⟨h1, h2, ?_⟩
  rcases h3 with h3 | ⟨h3, h4⟩
  ·exact .inl (by omega)
  ·exact .inr ⟨by omega, by omega⟩
def NmP (c : UInt8) (w : World) (r : Ending) (w' : World) : Prop := r = .returned (.bool (nmB c)) ∧ w = w'
theorem inName_any (c : UInt8) (w : World) : Calls Tryz.prog 101 #[.int .u8 (c.toNat : Int)] w (NmP c w) := by
 have HL := hHd (letter_any c w)
 cases hb : smB c with
 | true =>
  have HN := hHd (sm_nm hb)
  have HS := hHd hb
  clear hb
  go_enter Tryz.func101, Tryz.ntmps101
  go_wp2_with fail
  refine HL.out.mono ?_
  rintro r w1 ⟨rfl, rfl⟩
  rw [HS.out]
  clear HL
  go_wp2
  go_ret
  exact ⟨by rw [HN.out]; rfl, rfl⟩
 | false =>
  have HS := hHd hb
  have g := nm_ways c hb
  clear hb
  have HL : Hid (Calls Tryz.prog 100 #[.int .u8 (c.toNat : Int)] w fun r w' => r = .returned (.bool false) ∧ w = w') := hHd (HL.out.mono fun r w' h => ⟨by rw [h.1, HS.out], h.2⟩)
  have HQ : Hid (∀ b, nmB c = b → NmP c w (.returned (.bool b)) w) := hHd (fun b e => ⟨by rw [e], rfl⟩)
  rcases g with ⟨h1, g⟩ | ⟨h1, g0, g⟩
  ·have HN := hHd h1
   clear h1 HS
   generalize c.toNat = m at g HL
   rcases g with ⟨g1, g2⟩ | ⟨g1, g2⟩
   all_goals
    go_enter Tryz.func101, Tryz.ntmps101
    go_wp2_with fail
    refine HL.out.mono ?_
    rintro r w1 ⟨rfl, rfl⟩
    clear HL
    go_wp2
    go_ret
    exact HQ.out _ HN.out
  ·have HN := hHd h1
   clear h1 HS
   generalize c.toNat = m at g g0 HL
   rcases g with g1 | ⟨g1, g2⟩
   ·go_enter Tryz.func101, Tryz.ntmps101
    go_wp2_with fail
    refine HL.out.mono ?_
    rintro r w1 ⟨rfl, rfl⟩
    clear HL
    go_wp2
    go_ret
    exact HQ.out _ HN.out
   ·go_enter Tryz.func101, Tryz.ntmps101
    go_wp2_with fail
    refine HL.out.mono ?_
    rintro r w1 ⟨rfl, rfl⟩
    clear HL
    go_wp2
    go_ret
    exact HQ.out _ (HN.out.trans (decide_eq_false (by omega)).symm)
def IdentP (s : List UInt8) (w : World) (r : Ending) (w' : World) : Prop := r = .returned (.bool (identX s)) ∧ w = w'
def nmL (s : List UInt8) (k : Nat) : Prop := ∀ j c, j < k → s[j]? = some c → nmB c = true
theorem nmL_step {s : List UInt8} {k : Nat} {c : UInt8} (hc : s[k]? = some c) (h : nmL s k) (h1 : nmB c = true) : nmL s (k + 1) := by
 intro j d hj hd
 by_cases e : j = k
 ·subst e
  rw [hc] at hd
  injection hd with hd
  rw [← hd]; exact h1
 ·exact h j d (by omega) hd
theorem nmL_all {c : UInt8} {r : List UInt8} (h1 : smB c = true) (h2 : (c :: r).length ≤ 12) (h : nmL (c :: r) (c :: r).length) : identX (c :: r) = true := by
 rw [idL_all ⟨fun d _ hd => by simp at hd; rw [← hd]; exact h1, h⟩]
 simp
 simpa using h2
theorem ident_bad {s : List UInt8} {k : Nat} {c : UInt8} (hc : s[k]? = some c) (h : nmB c = false) : identX s = false :=
 id_bad hc (by cases hb : smB c with | false => rfl | true => rw [sm_nm hb] at h; cases h) (.inr h)
theorem ident_any (s : List UInt8) (hs : s.length ≤ 9223372036854775807) (w : World) : Calls Tryz.prog 73 #[.string (txt s)] w (IdentP s w) := by
 cases s with
 | nil =>
  have e0 : txt [] = (⟨#[]⟩ : ByteArray) := rfl
  rw [e0]
  go_enter Tryz.func73, Tryz.ntmps73
  go_wp2
  go_ret
  exact ⟨rfl, rfl⟩
 | cons c r =>
 have hsz := txt_size (c :: r)
 have ts : (txt (c :: r)).toList = c :: r := txt_toList _
 have hE : (c :: r).isEmpty = false := rfl
 have hN : ((c :: r) == []) = false := rfl
 by_cases h12 : (c :: r).length ≤ 12
 ·have i12 : ¬ ((12 : Int) < ((c :: r).length : Int)) := by omega
  have hin : 0 < (txt (c :: r)).size := by rw [hsz]; simp
  have hix : (((txt (c :: r))[0]'hin).toNat : Int) = (c.toNat : Int) := by rw [txt_get (c :: r) 0 (by simp) hin]; rfl
  have HL := hHd (letter_any c w)
  cases hb : smB c with
  | false =>
   have HV : Hid (identX (c :: r) = false) := hHd (ident_no hb r)
   have HS := hHd hb
   clear hb
   generalize c :: r = s at *
   go_enter Tryz.func73, Tryz.ntmps73
   go_wp2_with fail
   refine HL.out.mono ?_
   rintro e w1 ⟨rfl, rfl⟩
   rw [HS.out]
   clear HL
   go_wp2
   go_ret
   exact ⟨by rw [HV.out]; rfl, rfl⟩
  | true =>
   have HV : Hid (nmL (c :: r) (c :: r).length → identX (c :: r) = true) := hHd (fun h => nmL_all hb h12 h)
   have HS := hHd hb
   clear hb
   have hpos : 0 < (c :: r).length := by simp
   generalize c :: r = s at *
   go_enter Tryz.func73, Tryz.ntmps73
   go_wp2_with fail
   refine HL.out.mono ?_
   rintro e w1 ⟨rfl, rfl⟩
   rw [HS.out]
   clear HL hix
   go_wp2
   go_loop [3, 19] (fun v i => ∃ k : Nat, k ≤ s.length ∧ i = .int .i64 (k : Int) ∧ Hid (nmL s k)) (fun _ i => s.length - (intOf i).toNat)
   case atStart => exact ⟨0, by omega, rfl, hHd (fun j c h => by omega)⟩
   case round =>
    obtain ⟨k, hk, rfl, HK⟩ := hrel
    by_cases h1 : k < s.length
    ·have d1 : (k : Int) < (s.length : Int) := by omega
     obtain ⟨d, hd⟩ : ∃ d, s[k]? = some d := ⟨_, List.getElem?_eq_getElem h1⟩
     have hink : k < (txt s).size := by rw [hsz]; exact h1
     have hixk : (((txt s)[k]'hink).toNat : Int) = (d.toNat : Int) := by rw [txt_get s k h1 hink]; rw [List.getElem?_eq_getElem h1] at hd; injection hd with hd; rw [hd]
     have HN := hHd (inName_any d w)
     cases hn : nmB d with
     | true =>
      have HK2 := hHd (nmL_step hd HK.out hn)
      have HN2 := hHd hn
      clear hd hn HK
      go_wp2_with fail
      refine HN.out.mono ?_
      rintro e w1 ⟨rfl, rfl⟩
      rw [HN2.out]
      clear HN
      go_wp2
      go_round
      case rel => exact ⟨k + 1, by omega, by go_num, HK2⟩
      case measure => simp [intOf]; omega
     | false =>
      have HF : Hid (identX s = false) := hHd (ident_bad hd hn)
      have HN2 := hHd hn
      clear hd hn HK
      go_wp2_with fail
      refine HN.out.mono ?_
      rintro e w1 ⟨rfl, rfl⟩
      rw [HN2.out]
      clear HN
      go_wp2
      go_ret
      exact ⟨by rw [HF.out]; rfl, rfl⟩
    ·obtain rfl : k = s.length := by omega
     have HF : Hid (identX s = true) := hHd (HV.out HK.out)
     clear HK h1
     go_wp2
     go_ret
     exact ⟨by rw [HF.out]; rfl, rfl⟩
 ·have i12 : (12 : Int) < ((c :: r).length : Int) := by omega
  have HV : Hid (identX (c :: r) = false) := hHd (by
   cases h : identX (c :: r) with
   | false => rfl
   | true => exact absurd (ident_len h).2 h12)
  clear h12
  generalize c :: r = s at *
  go_enter Tryz.func73, Tryz.ntmps73
  go_wp2
  go_ret
  exact ⟨by rw [HV.out]; rfl, rfl⟩
end Go.Proofs.YtleidkpdpabkpaaGreatDoor
