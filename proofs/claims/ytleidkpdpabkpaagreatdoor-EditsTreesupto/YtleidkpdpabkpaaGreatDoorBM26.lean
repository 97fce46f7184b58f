/- Law18E TreOpen VadOpen -/
import Derived.Test.YtleidkpdpabkpaaGreatDoorBM18
import Derived.Deep.Fields
import Derived.SliceStrings
set_option linter.unusedSimpArgs false
set_option linter.unusedVariables false
set_option maxRecDepth 100000
set_option maxHeartbeats 8000000
namespace Go.Proofs.YtleidkpdpabkpaaGreatDoor
open Go.RowKit
section
attribute [local go_sem] Oper.semAt_some
def upT18 : List UInt8 := [117, 112]
def xE18 : EdD := ⟨2, [(upT18, [])], noN, (⟨upT18, [], 3, 0, []⟩, .nil)⟩
def exB18 : List UInt8 := [5, 15, 2, 3, 47, 117, 112, 5, 8, 0, 2, 117, 112, 4, 2, 3, 0]
def zE18 : EdD := ⟨0, [], noN, noN⟩
theorem ex_put18 : putX18 leastB [xE18] = (exB18, 0) := by decide +kernel
theorem ex_all18 : [xE18].all okE18 = true := by decide +kernel
theorem ex_none18 : [zE18].all okE18 = false := by decide +kernel
theorem ex_bad18 : getX18 leastB V18 [5, 0] = ([], 11) := by decide +kernel
theorem ex_ok18 : OkE18 xE18 := ⟨by decide, fun s hs => (by have e : s = (upT18, []) := (by simpa [xE18] using hs); subst e; decide), by decide, by decide, ⟨⟨by decide, by decide, by decide, by decide, by decide, by decide⟩, trivial⟩, ⟨⟨by decide, by decide, by decide, by decide, by decide, by decide⟩, trivial⟩⟩
theorem ez_ok18 : OkE18 zE18 := ⟨by decide, fun s hs => absurd hs (by simp [zE18]), by decide, by decide, ⟨⟨by decide, by decide, by decide, by decide, by decide, by decide⟩, trivial⟩, ⟨⟨by decide, by decide, by decide, by decide, by decide, by decide⟩, trivial⟩⟩
theorem ex_okl18 : OkL18 [xE18] := ⟨by decide, fun e he => (by have h : e = xE18 := (by simpa using he); subst h; exact ex_ok18), by decide +kernel, by decide +kernel⟩
theorem ez_okl18 : OkL18 [zE18] := ⟨by decide, fun e he => (by have h : e = zE18 := (by simpa using he); subst h; exact ez_ok18), by decide +kernel, by decide +kernel⟩
theorem ex_get18 : getX18 leastB V18 exB18 = ([xE18], 0) := put_get (fun n hn => V_least18 n hn) ex_put18 ex_okl18.num
theorem eds_one18 {w : World} {g : Nat} {cs : List Value} {e : EdD} (hb : Blk w g 55 cs.toArray) (he : EdS (Bel w) w cs e) : EdsV (Bel w) w (.slice (some ⟨g, 0, none⟩) 1 1) [e] :=
 ⟨_, 1, rfl, Nat.le_refl _, fun _ => ⟨g, 0, cs, rfl, hb.lt, ⟨cs, [], by simp, he, rfl⟩, fun j u hj => by rw [Nat.zero_add, hb.cell]; simpa using hj⟩⟩
theorem awake18_at (w : World) (C : EdtC w) : Calls Tryz.prog 7 #[] w (Ans9 (.bool true) w) := by
 have hz1 : (w.alloc (.cells #[.string (txt upT18), .string ⟨#[]⟩] 52)).heap.size = w.heap.size + 1 := by simp
 have hz2 : ((w.alloc (.cells #[.string (txt upT18), .string ⟨#[]⟩] 52)).alloc (.cells #[.int .i64 2, .slice (some ⟨w.heap.size, 0, none⟩) 1 1, .string ⟨#[]⟩, .string ⟨#[]⟩, .int .i64 0, .int .u64 0, .string ⟨#[]⟩, .slice none 0 0, .string (txt upT18), .string ⟨#[]⟩, .int .i64 3, .int .u64 0, .string ⟨#[]⟩, .slice none 0 0] 55)).heap.size = w.heap.size + 1 + 1 := by simp
 have hz3 : (((w.alloc (.cells #[.string (txt upT18), .string ⟨#[]⟩] 52)).alloc (.cells #[.int .i64 2, .slice (some ⟨w.heap.size, 0, none⟩) 1 1, .string ⟨#[]⟩, .string ⟨#[]⟩, .int .i64 0, .int .u64 0, .string ⟨#[]⟩, .slice none 0 0, .string (txt upT18), .string ⟨#[]⟩, .int .i64 3, .int .u64 0, .string ⟨#[]⟩, .slice none 0 0] 55)).alloc (.cells #[.int .i64 2, .slice (some ⟨w.heap.size, 0, none⟩) 1 1, .string ⟨#[]⟩, .string ⟨#[]⟩, .int .i64 0, .int .u64 0, .string ⟨#[]⟩, .slice none 0 0, .string (txt upT18), .string ⟨#[]⟩, .int .i64 3, .int .u64 0, .string ⟨#[]⟩, .slice none 0 0] 55)).heap.size = w.heap.size + 1 + 1 + 1 := by simp
 have hb3 : Below w.heap.size w (((w.alloc (.cells #[.string (txt upT18), .string ⟨#[]⟩] 52)).alloc (.cells #[.int .i64 2, .slice (some ⟨w.heap.size, 0, none⟩) 1 1, .string ⟨#[]⟩, .string ⟨#[]⟩, .int .i64 0, .int .u64 0, .string ⟨#[]⟩, .slice none 0 0, .string (txt upT18), .string ⟨#[]⟩, .int .i64 3, .int .u64 0, .string ⟨#[]⟩, .slice none 0 0] 55)).alloc (.cells #[.int .i64 2, .slice (some ⟨w.heap.size, 0, none⟩) 1 1, .string ⟨#[]⟩, .string ⟨#[]⟩, .int .i64 0, .int .u64 0, .string ⟨#[]⟩, .slice none 0 0, .string (txt upT18), .string ⟨#[]⟩, .int .i64 3, .int .u64 0, .string ⟨#[]⟩, .slice none 0 0] 55)) := (bAl.alloc (by simp) _).alloc (by simp; omega) _
 have hs : Blk (((w.alloc (.cells #[.string (txt upT18), .string ⟨#[]⟩] 52)).alloc (.cells #[.int .i64 2, .slice (some ⟨w.heap.size, 0, none⟩) 1 1, .string ⟨#[]⟩, .string ⟨#[]⟩, .int .i64 0, .int .u64 0, .string ⟨#[]⟩, .slice none 0 0, .string (txt upT18), .string ⟨#[]⟩, .int .i64 3, .int .u64 0, .string ⟨#[]⟩, .slice none 0 0] 55)).alloc (.cells #[.int .i64 2, .slice (some ⟨w.heap.size, 0, none⟩) 1 1, .string ⟨#[]⟩, .string ⟨#[]⟩, .int .i64 0, .int .u64 0, .string ⟨#[]⟩, .slice none 0 0, .string (txt upT18), .string ⟨#[]⟩, .int .i64 3, .int .u64 0, .string ⟨#[]⟩, .slice none 0 0] 55)) w.heap.size 52 #[.string (txt upT18), .string ⟨#[]⟩] := ((Blk.new _ _ _).alloc _).alloc _
 have hx : Blk (((w.alloc (.cells #[.string (txt upT18), .string ⟨#[]⟩] 52)).alloc (.cells #[.int .i64 2, .slice (some ⟨w.heap.size, 0, none⟩) 1 1, .string ⟨#[]⟩, .string ⟨#[]⟩, .int .i64 0, .int .u64 0, .string ⟨#[]⟩, .slice none 0 0, .string (txt upT18), .string ⟨#[]⟩, .int .i64 3, .int .u64 0, .string ⟨#[]⟩, .slice none 0 0] 55)).alloc (.cells #[.int .i64 2, .slice (some ⟨w.heap.size, 0, none⟩) 1 1, .string ⟨#[]⟩, .string ⟨#[]⟩, .int .i64 0, .int .u64 0, .string ⟨#[]⟩, .slice none 0 0, .string (txt upT18), .string ⟨#[]⟩, .int .i64 3, .int .u64 0, .string ⟨#[]⟩, .slice none 0 0] 55)) (w.heap.size + 1 + 1) 55 #[.int .i64 2, .slice (some ⟨w.heap.size, 0, none⟩) 1 1, .string ⟨#[]⟩, .string ⟨#[]⟩, .int .i64 0, .int .u64 0, .string ⟨#[]⟩, .slice none 0 0, .string (txt upT18), .string ⟨#[]⟩, .int .i64 3, .int .u64 0, .string ⟨#[]⟩, .slice none 0 0] := blk_at18 hz2 _ _
 have hed : EdS (Bel (((w.alloc (.cells #[.string (txt upT18), .string ⟨#[]⟩] 52)).alloc (.cells #[.int .i64 2, .slice (some ⟨w.heap.size, 0, none⟩) 1 1, .string ⟨#[]⟩, .string ⟨#[]⟩, .int .i64 0, .int .u64 0, .string ⟨#[]⟩, .slice none 0 0, .string (txt upT18), .string ⟨#[]⟩, .int .i64 3, .int .u64 0, .string ⟨#[]⟩, .slice none 0 0] 55)).alloc (.cells #[.int .i64 2, .slice (some ⟨w.heap.size, 0, none⟩) 1 1, .string ⟨#[]⟩, .string ⟨#[]⟩, .int .i64 0, .int .u64 0, .string ⟨#[]⟩, .slice none 0 0, .string (txt upT18), .string ⟨#[]⟩, .int .i64 3, .int .u64 0, .string ⟨#[]⟩, .slice none 0 0] 55))) (((w.alloc (.cells #[.string (txt upT18), .string ⟨#[]⟩] 52)).alloc (.cells #[.int .i64 2, .slice (some ⟨w.heap.size, 0, none⟩) 1 1, .string ⟨#[]⟩, .string ⟨#[]⟩, .int .i64 0, .int .u64 0, .string ⟨#[]⟩, .slice none 0 0, .string (txt upT18), .string ⟨#[]⟩, .int .i64 3, .int .u64 0, .string ⟨#[]⟩, .slice none 0 0] 55)).alloc (.cells #[.int .i64 2, .slice (some ⟨w.heap.size, 0, none⟩) 1 1, .string ⟨#[]⟩, .string ⟨#[]⟩, .int .i64 0, .int .u64 0, .string ⟨#[]⟩, .slice none 0 0, .string (txt upT18), .string ⟨#[]⟩, .int .i64 3, .int .u64 0, .string ⟨#[]⟩, .slice none 0 0] 55)) (edC 2 (.slice (some ⟨w.heap.size, 0, none⟩) 1 1) zeroT (.slice none 0 0) ⟨upT18, [], 3, 0, []⟩ (.slice none 0 0)) xE18 := by
  refine ⟨_, _, _, rfl, ⟨_, 1, rfl, Nat.le_refl _, fun _ => ⟨w.heap.size, 0, rfl, hs.lt, fun j s hj => ?_⟩⟩, FrV.empty _ _ _, FrV.empty _ _ _⟩
  cases j with
  | zero =>
   injection hj with hj
   subst hj
   exact ⟨(hs.cell 0).trans rfl, (hs.cell 1).trans rfl⟩
  | succ j => simp [xE18] at hj
 have hev : EdsV (Bel (((w.alloc (.cells #[.string (txt upT18), .string ⟨#[]⟩] 52)).alloc (.cells #[.int .i64 2, .slice (some ⟨w.heap.size, 0, none⟩) 1 1, .string ⟨#[]⟩, .string ⟨#[]⟩, .int .i64 0, .int .u64 0, .string ⟨#[]⟩, .slice none 0 0, .string (txt upT18), .string ⟨#[]⟩, .int .i64 3, .int .u64 0, .string ⟨#[]⟩, .slice none 0 0] 55)).alloc (.cells #[.int .i64 2, .slice (some ⟨w.heap.size, 0, none⟩) 1 1, .string ⟨#[]⟩, .string ⟨#[]⟩, .int .i64 0, .int .u64 0, .string ⟨#[]⟩, .slice none 0 0, .string (txt upT18), .string ⟨#[]⟩, .int .i64 3, .int .u64 0, .string ⟨#[]⟩, .slice none 0 0] 55))) (((w.alloc (.cells #[.string (txt upT18), .string ⟨#[]⟩] 52)).alloc (.cells #[.int .i64 2, .slice (some ⟨w.heap.size, 0, none⟩) 1 1, .string ⟨#[]⟩, .string ⟨#[]⟩, .int .i64 0, .int .u64 0, .string ⟨#[]⟩, .slice none 0 0, .string (txt upT18), .string ⟨#[]⟩, .int .i64 3, .int .u64 0, .string ⟨#[]⟩, .slice none 0 0] 55)).alloc (.cells #[.int .i64 2, .slice (some ⟨w.heap.size, 0, none⟩) 1 1, .string ⟨#[]⟩, .string ⟨#[]⟩, .int .i64 0, .int .u64 0, .string ⟨#[]⟩, .slice none 0 0, .string (txt upT18), .string ⟨#[]⟩, .int .i64 3, .int .u64 0, .string ⟨#[]⟩, .slice none 0 0] 55)) (.slice (some ⟨w.heap.size + 1 + 1, 0, none⟩) 1 1) [xE18] := eds_one18 (cs := edC 2 (.slice (some ⟨w.heap.size, 0, none⟩) 1 1) zeroT (.slice none 0 0) ⟨upT18, [], 3, 0, []⟩ (.slice none 0 0)) hx hed
 have hpu := C.put [xE18] _ (((w.alloc (.cells #[.string (txt upT18), .string ⟨#[]⟩] 52)).alloc (.cells #[.int .i64 2, .slice (some ⟨w.heap.size, 0, none⟩) 1 1, .string ⟨#[]⟩, .string ⟨#[]⟩, .int .i64 0, .int .u64 0, .string ⟨#[]⟩, .slice none 0 0, .string (txt upT18), .string ⟨#[]⟩, .int .i64 3, .int .u64 0, .string ⟨#[]⟩, .slice none 0 0] 55)).alloc (.cells #[.int .i64 2, .slice (some ⟨w.heap.size, 0, none⟩) 1 1, .string ⟨#[]⟩, .string ⟨#[]⟩, .int .i64 0, .int .u64 0, .string ⟨#[]⟩, .slice none 0 0, .string (txt upT18), .string ⟨#[]⟩, .int .i64 3, .int .u64 0, .string ⟨#[]⟩, .slice none 0 0] 55)) hev ex_okl18 hb3
 rw [ex_put18] at hpu
 have HPU := hHd hpu
 have HB3 := hHd hb3
 have HGE : ∀ W d B e, Rd W d (.slice B 17 e) exB18 → d < W.heap.size → Below w.heap.size w W → Hid (Calls Tryz.prog 13 #[.slice B 17 e] W (GetP18 exB18 W)) := fun W d B e hr hd hW => hHd (C.get exB18 _ d W hr (by decide) hW)
 have HGB : ∀ W d, Rd W d (.slice (some ⟨d, 0, none⟩) 2 2) [5, 0] → d < W.heap.size → Below w.heap.size w W → Hid (Calls Tryz.prog 13 #[.slice (some ⟨d, 0, none⟩) 2 2] W (GetP18 [5, 0] W)) := fun W d hr hd hW => hHd (C.get [5, 0] _ d W hr (by decide) hW)
 have HC1 : ∀ W M mc, EdsV (Bel W) W (.slice M 1 mc) [xE18] → Below w.heap.size w W → Hid (Calls Tryz.prog 11 #[.slice M 1 mc] W (Ans9 (.bool true) W)) := fun W M mc hv hW => hHd (by have h := C.check [xE18] _ W hv ex_okl18 hW; rw [ex_all18] at h; exact h)
 have HC2 : ∀ W g, Blk W g 55 #[.int .i64 0, .slice none 0 0, .string ⟨#[]⟩, .string ⟨#[]⟩, .int .i64 0, .int .u64 0, .string ⟨#[]⟩, .slice none 0 0, .string ⟨#[]⟩, .string ⟨#[]⟩, .int .i64 0, .int .u64 0, .string ⟨#[]⟩, .slice none 0 0] → Below w.heap.size w W → Hid (Calls Tryz.prog 11 #[.slice (some ⟨g, 0, none⟩) 1 1] W (Ans9 (.bool false) W)) := fun W g hb hW => hHd (by
  have hed : EdS (Bel W) W (edC 0 (.slice none 0 0) zeroT (.slice none 0 0) zeroT (.slice none 0 0)) zE18 := ⟨_, _, _, rfl, WayV.s (WayV.nil _ _ _ _), FrV.empty _ _ _, FrV.empty _ _ _⟩
  have h := C.check [zE18] _ W (eds_one18 hb hed) ez_okl18 hW
  rw [ex_none18] at h
  exact h)
 clear hz1 hz2 hz3 hb3 hs hx hed hev hpu
 go_enter Tryz.func7, Tryz.ntmps7
 go_wp2_with fail
 refine HPU.out.mono ?_
 rintro r w4 ⟨d, B, e, rfl, hrd, hd, hb⟩
 have HB4 := hHd (HB3.out.trans (hb.mono HB3.out.size))
 have HRD := hHd hrd
 have HD := hHd hd
 clear hb hrd hd HPU
 go_wp2_with fail
 refine (HGE _ _ _ _ HRD.out HD.out HB4.out).out.mono ?_
 rintro r w5 ⟨m, rfl, hm, hb⟩
 rw [ex_get18] at hm
 rw [ex_get18]
 obtain ⟨M, mc, rfl⟩ : ∃ M mc, m = .slice M 1 mc := hm.shape
 have HB5 := hHd (HB4.out.trans (hb.mono HB4.out.size))
 have HRD5 := hHd (HRD.out.below' hb)
 have HM5 := hHd hm
 clear hb hm HRD HD
 have hb56 : Below w5.heap.size w5 (w5.alloc (.cells #[.int .u8 5, .int .u8 0] 5)) := bAl
 have HB56 := hHd (HB5.out.trans (hb56.mono HB5.out.size))
 have HM56 := hHd (HM5.out.below hb56)
 have HRD56 := hHd (HRD5.out.below' hb56)
 have HR5 : Hid (Rd (w5.alloc (.cells #[.int .u8 5, .int .u8 0] 5)) w5.heap.size (.slice (some ⟨w5.heap.size, 0, none⟩) 2 2) [5, 0]) := hHd (lit2_18 w5 5 0)
 have HS5 : Hid (w5.heap.size < (w5.alloc (.cells #[.int .u8 5, .int .u8 0] 5)).heap.size) := hHd (by simp)
 clear hb56 HRD5 HM5
 go_wp2_with fail
 refine (HGB _ _ HR5.out HS5.out HB56.out).out.mono ?_
 rintro r w6 ⟨n, rfl, hn, hb⟩
 rw [ex_bad18]
 have HB6 := hHd (HB56.out.trans (hb.mono HB56.out.size))
 have HM6 := hHd (HM56.out.below hb)
 have q1 : (convert 25 9 (.slice B exB18.length e)).run Tryz.prog w6 = .ok (.string (txt exB18)) w6 := str_of (HRD56.out.below' hb)
 clear hn hb HR5 HS5 HRD56 HM56
 obtain ⟨g, o, Aw, cw, An, cn, Ao, co, rfl, -, -, hg, -, -, -, hcl⟩ := HM6.out.at (j := 0) (e := xE18) rfl
 have c8 : w6.cell? ⟨g, o + 8, none⟩ = some (.string (txt upT18)) := by have h := hcl 8 _ rfl; simp only [Nat.zero_mul, Nat.add_zero] at h; exact h
 have HCK := HC1 _ _ _ HM6.out HB6.out
 have t1 : (txt exB18).toList = exB18 := txt_toList _
 have t2 : (txt upT18).toList = upT18 := txt_toList _
 have t3 : (exB18 == [5, 15, 2, 3, 47, 117, 112, 5, 8, 0, 2, 117, 112, 4, 2, 3, 0]) = true := by decide
 have t4 : (upT18 == [117, 112]) = true := by decide
 have e1 : txt exB18 = ⟨#[5, 15, 2, 3, 47, 117, 112, 5, 8, 0, 2, 117, 112, 4, 2, 3, 0]⟩ := rfl
 have e2 : txt upT18 = ⟨#[117, 112]⟩ := rfl
 rw [e1] at q1
 rw [e2] at c8
 clear hcl e1 e2 t1 t2 t3 t4
 go_wp2_with fail
 refine HCK.out.mono ?_
 rintro r w7 ⟨rfl, hb⟩
 have HB7 := hHd (HB6.out.trans (hb.mono HB6.out.size))
 have HCZ := HC2 (w7.alloc (.cells #[.int .i64 0, .slice none 0 0, .string ⟨#[]⟩, .string ⟨#[]⟩, .int .i64 0, .int .u64 0, .string ⟨#[]⟩, .slice none 0 0, .string ⟨#[]⟩, .string ⟨#[]⟩, .int .i64 0, .int .u64 0, .string ⟨#[]⟩, .slice none 0 0] 55)) w7.heap.size (Blk.new _ _ _) (HB7.out.trans ((bAl : Below w7.heap.size w7 (w7.alloc (.cells #[.int .i64 0, .slice none 0 0, .string ⟨#[]⟩, .string ⟨#[]⟩, .int .i64 0, .int .u64 0, .string ⟨#[]⟩, .slice none 0 0, .string ⟨#[]⟩, .string ⟨#[]⟩, .int .i64 0, .int .u64 0, .string ⟨#[]⟩, .slice none 0 0] 55))).mono HB7.out.size))
 have HB8 : Hid (Below w.heap.size w (w7.alloc (.cells #[.int .i64 0, .slice none 0 0, .string ⟨#[]⟩, .string ⟨#[]⟩, .int .i64 0, .int .u64 0, .string ⟨#[]⟩, .slice none 0 0, .string ⟨#[]⟩, .string ⟨#[]⟩, .int .i64 0, .int .u64 0, .string ⟨#[]⟩, .slice none 0 0] 55))) := hHd (HB7.out.trans ((bAl : Below w7.heap.size w7 (w7.alloc (.cells #[.int .i64 0, .slice none 0 0, .string ⟨#[]⟩, .string ⟨#[]⟩, .int .i64 0, .int .u64 0, .string ⟨#[]⟩, .slice none 0 0, .string ⟨#[]⟩, .string ⟨#[]⟩, .int .i64 0, .int .u64 0, .string ⟨#[]⟩, .slice none 0 0] 55))).mono HB7.out.size))
 clear hb q1 c8
 go_wp2_with fail
 refine HCZ.out.mono ?_
 rintro r w9 ⟨rfl, hb⟩
 have HB9 := hHd (HB8.out.trans (hb.mono HB8.out.size))
 clear hb
 go_wp2_with fail
 go_ret
 exact ⟨rfl, HB9.out⟩
theorem EdtC.later {w W : World} (C : EdtC w) (h : Below w.heap.size w W) : EdtC W where
 check l v W2 a b c := C.check l v W2 a b (h.trans (c.mono h.size))
 put l v W2 a b c := C.put l v W2 a b (h.trans (c.mono h.size))
 get s b d W2 a1 a2 c := C.get s b d W2 a1 a2 (h.trans (c.mono h.size))
theorem awake18 {w : World} (C : EdtC w) : Awake18 w := fun W h => awake18_at W (C.later h)
end
section
open Go.ChangeShapes Go.WideShapes Go.Deep
theorem bulk_one9 {H : Type} (d : DataW H) : 1 ≤ Rows.uptoBulk d := by
 cases d with
 | lit l => cases l <;> simp [Rows.uptoBulk]
 | nil => simp [Rows.uptoBulk]
 | ptr d => simp [Rows.uptoBulk]
 | slice elems spare => simp [Rows.uptoBulk]
 | agg parts => simp [Rows.uptoBulk]
 | iface t d => simp [Rows.uptoBulk]
 | map entries => simp [Rows.uptoBulk]
 | held h => simp [Rows.uptoBulk]
theorem add_bare9 (b o j : Nat) : (⟨b, o, none⟩ : Addr).add j = ⟨b, o + j, none⟩ := by unfold Addr.add; split <;> simp_all
theorem cellsNode : Tryz.prog.cellsOf 42 = 6 := by kernel_rfl
theorem cellsVal : Tryz.prog.cellsOf 39 = 3 := by kernel_rfl
theorem cellsStr9 : Tryz.prog.cellsOf 9 = 1 := by kernel_rfl
theorem cellsInt9 : Tryz.prog.cellsOf 3 = 1 := by kernel_rfl
theorem cellsU64 : Tryz.prog.cellsOf 37 = 1 := by kernel_rfl
theorem cellsNds : Tryz.prog.cellsOf 40 = 1 := by kernel_rfl
end
section
open Go.ChangeShapes Go.WideShapes Go.Deep
theorem node_cells10 {H : Type} {enc : TypeId × Value → H} {W : World} {n : Nat} {cs : List Value} {x : DataW H × List MemPlace} (h : DataW.trod enc Tryz.prog W 0 (fun _ => true) true n 42 cs = some x) :
  ∃ (a : NdD) (c5 : Value) (n' : Nat) (y : DataW H × List MemPlace), n = n' + 1 ∧ cs = ndC a c5 ∧ DataW.trod enc Tryz.prog W 0 (fun _ => true) true n' 40 [c5] = some y ∧ Rows.uptoBulk y.1 + 4 ≤ Rows.uptoBulk x.1 ∧ (Rows.uptoBulk x.1 ≤ 1048576 → OkD a) := by
 obtain ⟨ys, k, hk, hy, hlen, hyl, hf⟩ := DataW.trod_struct Tryz.underlying42 h
 rw [cellsNode] at hlen
 have hyl' : ys.length = 4 := hyl
 match cs, hlen, ys, hyl', hy with
 | [v0, v1, v2, v3, v4, v5], _, [y0, y1, y2, y3], _, hy =>
  have f0 : DataW.trod enc Tryz.prog W 0 (fun _ => true) true k 9 (List.take (Tryz.prog.cellsOf 9) (List.drop 0 [v0, v1, v2, v3, v4, v5])) = some _ := (hf 0 _ rfl).trans rfl
  have f1 : DataW.trod enc Tryz.prog W 0 (fun _ => true) true k 9 (List.take (Tryz.prog.cellsOf 9) (List.drop 1 [v0, v1, v2, v3, v4, v5])) = some _ := (hf 1 _ rfl).trans rfl
  have f2 : DataW.trod enc Tryz.prog W 0 (fun _ => true) true k 39 (List.take (Tryz.prog.cellsOf 39) (List.drop 2 [v0, v1, v2, v3, v4, v5])) = some _ := (hf 2 _ rfl).trans rfl
  have f3 : DataW.trod enc Tryz.prog W 0 (fun _ => true) true k 40 (List.take (Tryz.prog.cellsOf 40) (List.drop 5 [v0, v1, v2, v3, v4, v5])) = some _ := (hf 3 _ rfl).trans rfl
  rw [cellsStr9] at f0 f1
  rw [cellsVal] at f2
  rw [cellsNds] at f3
  simp only [List.drop_zero, List.drop_succ_cons, List.take_succ_cons, List.take_zero] at f0 f1 f2 f3
  obtain ⟨s0, e0, b0, _⟩ := DataW.trod_string Tryz.underlying9 f0
  obtain ⟨s1, e1, b1, _⟩ := DataW.trod_string Tryz.underlying9 f1
  obtain ⟨zs, k', hk', hz, _, hzl, hg⟩ := DataW.trod_struct Tryz.underlying39 f2
  have hzl' : zs.length = 3 := hzl
  match zs, hzl', hz with
  | [z0, z1, z2], _, hz =>
   have g0 : DataW.trod enc Tryz.prog W 0 (fun _ => true) true k' 3 (List.take (Tryz.prog.cellsOf 3) (List.drop 0 [v2, v3, v4])) = some _ := (hg 0 _ rfl).trans rfl
   have g1 : DataW.trod enc Tryz.prog W 0 (fun _ => true) true k' 37 (List.take (Tryz.prog.cellsOf 37) (List.drop 1 [v2, v3, v4])) = some _ := (hg 1 _ rfl).trans rfl
   have g2 : DataW.trod enc Tryz.prog W 0 (fun _ => true) true k' 9 (List.take (Tryz.prog.cellsOf 9) (List.drop 2 [v2, v3, v4])) = some _ := (hg 2 _ rfl).trans rfl
   rw [cellsInt9] at g0
   rw [cellsU64] at g1
   rw [cellsStr9] at g2
   simp only [List.drop_zero, List.drop_succ_cons, List.take_succ_cons, List.take_zero] at g0 g1 g2
   obtain ⟨kd, e2, _, hwk⟩ := DataW.trod_int Tryz.underlying3 g0
   obtain ⟨nu, e3, _, hw⟩ := DataW.trod_int Tryz.underlying37 g1
   obtain ⟨s2, e4, b4, _⟩ := DataW.trod_string Tryz.underlying9 g2
   have hb := bounds_u64 hw
   have hbk := bounds_i64 hwk
   have hy2 := congrArg Prod.fst hz
   simp at e0 e1 e2 e3 e4
   subst e0 e1 e2 e3 e4
   refine ⟨⟨s0.data.toList, s1.data.toList, kd, nu.toNat, s2.data.toList⟩, v5, k, y3, hk, ?_, f3, ?_, fun hbl => ?_⟩
   ·show _ = [Value.string (txt s0.data.toList), Value.string (txt s1.data.toList), Value.int .i64 kd, Value.int .u64 (nu.toNat : Int), Value.string (txt s2.data.toList), v5]
    rw [show txt s0.data.toList = s0 from txt_ext (txt_data _), show txt s1.data.toList = s1 from txt_ext (txt_data _), show txt s2.data.toList = s2 from txt_ext (txt_data _), Int.toNat_of_nonneg (by omega)]
   ·have hx : x.1 = .agg [y0.1, y1.1, y2.1, y3.1] := congrArg Prod.fst hy
    rw [hx]
    have := bulk_one9 y0.1
    have := bulk_one9 y1.1
    have := bulk_one9 y2.1
    simp only [Rows.uptoBulk, Rows.uptoBulkAll]
    omega
   ·have hx : x.1 = .agg [y0.1, y1.1, y2.1, y3.1] := congrArg Prod.fst hy
    rw [hx] at hbl
    have hy2' : y2.1 = .agg [z0.1, z1.1, z2.1] := hy2
    have q0 : Rows.uptoBulk y0.1 = s0.data.toList.length + 1 := by rw [show y0.1 = .lit (.string s0.data.toList) from congrArg Prod.fst b0]; rfl
    have q1 : Rows.uptoBulk y1.1 = s1.data.toList.length + 1 := by rw [show y1.1 = .lit (.string s1.data.toList) from congrArg Prod.fst b1]; rfl
    have q4 : Rows.uptoBulk z2.1 = s2.data.toList.length + 1 := by rw [show z2.1 = .lit (.string s2.data.toList) from congrArg Prod.fst b4]; rfl
    have q2 : Rows.uptoBulk y2.1 ≥ Rows.uptoBulk z2.1 := by rw [hy2']; simp only [Rows.uptoBulk, Rows.uptoBulkAll]; omega
    simp only [Rows.uptoBulk, Rows.uptoBulkAll] at hbl
    exact ⟨by simp only; omega, by simp only; omega, hbk.1, hbk.2, by simp only; omega, by simp only; omega⟩
theorem open_nodes10 {H : Type} {enc : TypeId × Value → H} {W : World} (N : Nat) :
  ∀ {fuel : Nat} {v : Value} {x : DataW H × List MemPlace}, fuel ≤ N → DataW.trod enc Tryz.prog W 0 (fun _ => true) true fuel 40 [v] = some x → ∃ f, RowT W.heap.size W v f ∧ 2 * f.size ≤ Rows.uptoBulk x.1 ∧ (Rows.uptoBulk x.1 ≤ 1048576 → OkF f) := by
 induction N with
 | zero =>
  intro fuel v x hN h
  obtain rfl : fuel = 0 := by omega
  simp [DataW.trod] at h
 | succ N ih =>
  intro fuel v x hN h
  rcases DataW.trod_slice Tryz.underlying40 h with ⟨hcs, rfl⟩ | ⟨a, len, cap, elems, rest, n, rfl, hcs, rfl, hb, hl, hm, hlen, hel, -, -⟩
  ·simp at hcs
   subst hcs
   exact ⟨.nil, FrV.empty _ _ _, Nat.zero_le _, fun _ => trivial⟩
  ·simp at hcs
   subst hcs
   by_cases h0 : 0 < len
   ·have hcell0 : ∃ u, W.cell? a = some u := by
     have h1 := hel 0 h0
     rw [List.getElem?_eq_getElem (by omega)] at h1
     obtain ⟨cs', h2, _⟩ := Option.bind_eq_some_iff.1 h1
     rw [cellsNode] at h2
     obtain ⟨_, h3, h4⟩ := World.cells?_some h2
     have h5 := h4 0 (by omega)
     rw [List.getElem?_eq_getElem (by omega)] at h5
     exact ⟨_, by simpa [Addr.add] using h5⟩
    obtain ⟨u0, hu0⟩ := hcell0
    have hsp0 : a.spot = none := World.cell?_spot hu0
    have hlt : a.block < W.heap.size := World.block_lt_of_cell? W _ hu0
    obtain ⟨b, off, sp⟩ := a
    have hsp : sp = none := hsp0
    subst hsp
    have rows : ∀ m, m ≤ len → ∃ f : NdF, f.len = m ∧ FrAt NdT 6 5 W (fun g => g < W.heap.size) noB f b (off + (len - m) * 6) ∧ 2 * f.size ≤ Rows.uptoBulkAll ((elems.drop (len - m)).map (·.1)) ∧ (Rows.uptoBulkAll ((elems.drop (len - m)).map (·.1)) ≤ 1048576 → OkF f) := by
     intro m
     induction m with
     | zero => intro _; exact ⟨.nil, rfl, trivial, Nat.zero_le _, fun _ => trivial⟩
     | succ m ihm =>
      intro hm'
      obtain ⟨r, hr1, hr2, hr3, hr4⟩ := ihm (by omega)
      obtain ⟨i, hi⟩ : ∃ i, i = len - (m + 1) := ⟨_, rfl⟩
      have hi1 : len - m = i + 1 := by omega
      have hil : i < len := by omega
      rw [hi1] at hr2 hr3 hr4
      rw [← hi]
      have h1 := hel i hil
      have hie : i < elems.length := by omega
      rw [List.getElem?_eq_getElem hie] at h1
      obtain ⟨cs', h2, h3⟩ := Option.bind_eq_some_iff.1 h1
      rw [cellsNode] at h2
      obtain ⟨_, hcl, hat⟩ := World.cells?_some h2
      have hcc : ∀ j, j < 6 → W.cell? ⟨b, off + i * 6 + j, none⟩ = cs'[j]? := fun j hj => by
       have h5 := hat j hj
       rw [add_bare9, add_bare9] at h5
       exact h5
      obtain ⟨nd, c5, n', y, hn', rfl, hy, hyb, hyo⟩ := node_cells10 h3
      obtain ⟨k, hk1, hk2, hk3⟩ := ih (by omega) hy
      have hdrop : (elems.drop i).map (·.1) = (elems[i]).1 :: (elems.drop (i + 1)).map (·.1) := by rw [List.drop_eq_getElem_cons hie]; rfl
      obtain ⟨A, c, rfl⟩ := FrV.shape hk1
      obtain ⟨A', c', e, hkc, hkr⟩ := hk1
      injection e with e1 e2 e3
      subst e1 e3
      refine ⟨.cons nd k r, by simp only [Fr.len, hr1], ⟨⟨ndC nd (.slice A k.len c), rfl, fun j u hu => ?_, ⟨_, rfl, rfl⟩, A, c, rfl, hkc, hkr⟩, ?_⟩, ?_, fun hbl => ?_⟩
      ·have hj : j < 6 := (List.getElem?_eq_some_iff.1 hu).1
       rw [hcc j hj, hu]
      ·have h9 : off + i * 6 + 6 = off + (i + 1) * 6 := by omega
       rw [h9]; exact hr2
      ·rw [hdrop]
       simp only [Fr.size, Rows.uptoBulkAll]
       omega
      ·rw [hdrop] at hbl
       simp only [Rows.uptoBulkAll] at hbl
       exact ⟨hyo (by omega), hk3 (by omega), hr4 (by omega)⟩
    obtain ⟨f, hf1, hf2, hf3, hf4⟩ := rows len (Nat.le_refl _)
    rw [Nat.sub_self, Nat.zero_mul, Nat.add_zero] at hf2
    rw [Nat.sub_self, List.drop_zero] at hf3 hf4
    refine ⟨f, ⟨_, cap, by rw [hf1], by omega, fun _ => ⟨b, off, rfl, hlt, hf2⟩⟩, ?_, fun hbl => hf4 ?_⟩
    ·simp only [Rows.uptoBulk]
     omega
    ·simp only [Rows.uptoBulk] at hbl
     omega
   ·obtain rfl : len = 0 := by omega
    exact ⟨.nil, FrV.none_ _ _, Nat.zero_le _, fun _ => trivial⟩
theorem open_node10 {H : Type} {enc : TypeId × Value → H} {W : World} {v : Value} {d : DataW H} {p : List MemPlace} (h : DataW.Trod enc Tryz.prog W 0 (fun _ => true) true 42 v d p) (hv : ∃ cs : Array Value, v = .agg cs) :
  ∃ (a : NdD) (f : NdF) (A : Option Addr) (c : Nat), v = .agg (ndC a (.slice A f.len c)).toArray ∧ LieN W (ndC a (.slice A f.len c)) (a, f) ∧ 2 * f.size ≤ Rows.uptoBulk d ∧ (Rows.uptoBulk d ≤ 1048576 → OkD a ∧ OkF f) := by
 obtain ⟨fuel, hf⟩ := h
 obtain ⟨cs, rfl⟩ := hv
 have hf' : DataW.trod enc Tryz.prog W 0 (fun _ => true) true fuel 42 cs.toList = some (d, p) := hf
 obtain ⟨a, c5, n', y, _, he, hy, hb, ho⟩ := node_cells10 hf'
 obtain ⟨f, h1, h2, h3⟩ := open_nodes10 n' (Nat.le_refl _) hy
 obtain ⟨A, c, rfl⟩ := FrV.shape h1
 refine ⟨a, f, A, c, ?_, LieB.make h1, by simp only at hb; omega, fun hbl => ⟨ho hbl, h3 (by simp only at hb; omega)⟩⟩
 rw [← he]
end
end Go.Proofs.YtleidkpdpabkpaaGreatDoor
