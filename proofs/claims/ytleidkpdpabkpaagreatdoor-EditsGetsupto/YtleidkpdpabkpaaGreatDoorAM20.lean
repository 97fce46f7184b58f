/- Law18C EdtOkl Law18E TreOpen DifOpen PthOpen -/
import Derived.Test.YtleidkpdpabkpaaGreatDoorAM19
import Derived.Deep.Fields
import Derived.SliceStrings
set_option linter.unusedSimpArgs false
set_option linter.unusedVariables false
set_option maxRecDepth 100000
set_option maxHeartbeats 8000000
namespace Go.Proofs.YtleidkpdpabkpaaGreatDoor
open Go.RowKit
section
attribute [local go_sem] Oper.semAt_some
theorem editsRows_no (l : List EdD) (v : Value) (x : Nat) (w : World) (hl : EdsV (Bel w) w v l) (hn : FewN18 l) (hX : fewX18 l = false) (HA : Awake18 w) : Calls Tryz.prog 6 #[v, .int .u8 (x : Int)] w (Ans9 (.bool true) w) := by
 obtain ⟨A, c, rfl⟩ := hl.shape
 have HAW := hHd (HA w (Below.refl _ _))
 have HFW : ∀ W, Below w.heap.size w W → Hid (Calls Tryz.prog 8 #[.slice A l.length c] W (Ans9 (.bool false) W)) := fun W hW => hHd (by have h := few18_any l _ W (hl.below hW) hn; rw [hX] at h; exact h)
 clear hl hn hX
 go_enter Tryz.func6, Tryz.ntmps6
 go_wp2_with fail
 refine HAW.out.mono ?_
 rintro r w1 ⟨rfl, hb⟩
 have HB := hHd hb
 clear hb
 go_wp2_with fail
 refine (HFW _ HB.out).out.mono ?_
 rintro r w2 ⟨rfl, hb⟩
 have HB2 := hHd (HB.out.trans (hb.mono HB.out.size))
 clear hb
 go_wp2_with fail
 go_ret
 exact ⟨rfl, HB2.out⟩
theorem editsRows_yes (l : List EdD) (v : Value) (x : Nat) (hx : x < 256) (w : World) (hl : EdsV (Bel w) w v l) (hn : FewN18 l) (hX : fewX18 l = true) (hok : OkL18 l) (C : EdtC w) (HA : Awake18 w) : Calls Tryz.prog 6 #[v, .int .u8 (x : Int)] w (Ans9 (.bool true) w) := by
 obtain ⟨A, cp, rfl⟩ := hl.shape
 have hcap : l.length ≤ cp := by obtain ⟨_, _, e, h1, _⟩ := hl; injection e with _ _ e; omega
 have HAW := hHd (HA w (Below.refl _ _))
 have HFW : ∀ W, Below w.heap.size w W → Hid (Calls Tryz.prog 8 #[.slice A l.length cp] W (Ans9 (.bool true) W)) := fun W hW => hHd (by have h := few18_any l _ W (hl.below hW) hn; rw [hX] at h; exact h)
 obtain ⟨⟨P, pe⟩, hp⟩ : ∃ x, x = putX18 leastB l := ⟨_, rfl⟩
 have HP1 : ∀ W, Below w.heap.size w W → Hid (Calls Tryz.prog 9 #[.slice A l.length cp] W (fun r w' => ∃ d A c, r = .returned (.tuple #[.slice A P.length c, .int .i64 (pe : Int)]) ∧ Rd w' d (.slice A P.length c) P ∧ d < w'.heap.size ∧ Below W.heap.size W w')) := fun W hW => hHd (by have h := C.put l _ W (hl.below hW) hok hW; rw [← hp] at h; exact h)
 have l0 : l.length ≤ 60 := (fewX18_iff.1 hX).2
 by_cases hpe : pe = 0
 rotate_left
 ·have y2 : ((pe : Int) != 0) = true := by simp [hpe]
  have y1 : ((pe : Int) == 0) = false := by simp [hpe]
  clear hl hn hX hok hp hpe
  go_enter Tryz.func6, Tryz.ntmps6
  go_wp2_with fail
  refine HAW.out.mono ?_
  rintro r w1 ⟨rfl, hb⟩
  have HB1 := hHd hb
  clear hb
  go_wp2_with fail
  refine (HFW _ HB1.out).out.mono ?_
  rintro r w2 ⟨rfl, hb⟩
  have HB2 := hHd (HB1.out.trans (hb.mono HB1.out.size))
  clear hb
  go_wp2_with fail
  refine (HP1 _ HB2.out).out.mono ?_
  rintro r w3 ⟨d, B, e, rfl, hrd, hd, hb⟩
  have HB3 := hHd (HB2.out.trans (hb.mono HB2.out.size))
  clear hb hrd hd
  go_wp2_with fail
  go_ret
  exact ⟨rfl, HB3.out⟩
 ·subst hpe
  obtain ⟨k, hk⟩ : ∃ k, k = x % (l.length + 1) := ⟨_, rfl⟩
  have hkl : k ≤ l.length := by have := Nat.mod_lt x (show 0 < l.length + 1 by omega); omega
  obtain ⟨S, T, h1, h2, h3⟩ := put_rows (L := leastB) (l := l.take k) (m := l.drop k) (b := P) (by rw [List.take_append_drop]; exact hp.symm)
  obtain ⟨ok1, ok2⟩ := okl_take18 hok k
  obtain ⟨Q, hQ⟩ : ∃ Q, Q = (if cp = k then A else Option.map (fun x => x.add (k * 14)) A) := ⟨_, rfl⟩
  have HQ : Hid ((if cp = k then A else Option.map (fun x => x.add (k * 14)) A) = Q) := hHd hQ.symm
  have htl : (l.take k).length = k := by rw [List.length_take]; omega
  have hS8 : S.length ≤ 8192 := by have h := put_len18 (l.take k); rw [h1] at h; exact h
  have hT8 : T.length ≤ 8192 := by have h := put_len18 (l.drop k); rw [h2] at h; exact h
  have HV1 : ∀ W, Below w.heap.size w W → EdsV (Bel W) W (.slice A k cp) (l.take k) := fun W hW => EdsV.take18 (hl.below hW) k hkl
  have HV2 : ∀ W, Below w.heap.size w W → EdsV (Bel W) W (.slice Q (l.length - k) (cp - k)) (l.drop k) := fun W hW => by have h := EdsV.tail_18 (hl.below hW) k hkl; rw [← hQ] at h; exact h
  have HP2 : ∀ W, Below w.heap.size w W → Hid (Calls Tryz.prog 9 #[.slice A k cp] W (fun r w' => ∃ d A c, r = .returned (.tuple #[.slice A S.length c, .int .i64 0]) ∧ Rd w' d (.slice A S.length c) S ∧ d < w'.heap.size ∧ Below W.heap.size W w')) := fun W hW => hHd (by have h := C.put (l.take k) _ W (HV1 W hW) ok1 hW; rw [h1] at h; exact h)
  have HP3 : ∀ W, Below w.heap.size w W → Hid (Calls Tryz.prog 9 #[.slice Q (l.length - k) (cp - k)] W (fun r w' => ∃ d A c, r = .returned (.tuple #[.slice A T.length c, .int .i64 0]) ∧ Rd w' d (.slice A T.length c) T ∧ d < w'.heap.size ∧ Below W.heap.size W w')) := fun W hW => hHd (by have h := C.put (l.drop k) _ W (HV2 W hW) ok2 hW; rw [h2] at h; exact h)
  have HGE : ∀ W d B e, Rd W d (.slice B S.length e) S → d < W.heap.size → Below w.heap.size w W → Hid (Calls Tryz.prog 13 #[.slice B S.length e] W (GetP18 S W)) := fun W d B e hr hd hW => hHd (C.get S _ d W hr (by omega) hW)
  have HGX : Hid (getX18 leastB V18 S = (l.take k, 0)) := hHd (put_get (fun n hn => V_least18 n hn) h1 ok1.num)
  have HSM : ∀ W M mc, EdsV (Bel W) W (.slice M k mc) (l.take k) → Below w.heap.size w W → Hid (Calls Tryz.prog 14 #[.slice M k mc, .slice A k cp] W (Ans9 (.bool true) W)) := fun W M mc hm hW => hHd (by have h := rsame16_any (l.take k) (l.take k) _ _ W hm (HV1 W hW) ok1.few ok1.few; rw [same_dec18] at h; exact h)
  have hcat : txt S ++ txt T = txt P := by rw [← h3]; exact txt_catS S T
  have s1 := txt_size S
  have s2 := txt_size T
  have s4 : ¬ 9223372036854775807 < S.length + T.length := by omega
  have s5 : (txt P).toList = P := txt_toList _
  have pq : (P == P) = true := beq_self_eq_true _
  have k0 : (0 : Int) ≤ (k : Int) := by omega
  have k1 : (k : Int) ≤ (l.length : Int) := by omega
  have k2 : (k : Int) ≤ (cp : Int) := by omega
  have k3 : k ≤ cp := by omega
  have k4 : (l.length : Int) - (k : Int) = ((l.length - k : Nat) : Int) := by omega
  have k5 : (cp : Int) - (k : Int) = ((cp - k : Nat) : Int) := by omega
  have m1 : (x : Int) % ((l.length : Int) + 1) = (k : Int) := by rw [hk, Int.natCast_emod]; simp
  have m2 : (x : Int).tmod ((l.length : Int) + 1) = (k : Int) := by rw [Int.tmod_eq_emod_of_nonneg (by omega)]; exact m1
  have m3 : ((l.length : Int) + 1 == 0) = false := by rw [beq_eq_false_iff_ne]; omega
  have m4 : IntKind.i64.wrap (k : Int) = (k : Int) := Go.IntWalk.i64_in _ (by omega)
  have m5 : IntKind.i64.wrap (x : Int) = (x : Int) := Go.IntWalk.i64_in _ (by omega)
  have m6 : IntKind.i64.wrap ((l.length : Int) + 1) = (l.length : Int) + 1 := Go.IntWalk.i64_in _ (by omega)
  have hQQ := HQ.out
  have HTL := hHd htl
  clear hl hn hX hok hp hk h1 h2 h3 ok1 ok2 hQ htl HV1 HV2 hS8 hT8
  go_enter Tryz.func6, Tryz.ntmps6
  go_wp2_with fail
  refine HAW.out.mono ?_
  rintro r w1 ⟨rfl, hb⟩
  have HB1 := hHd hb
  clear hb
  go_wp2_with fail
  refine (HFW _ HB1.out).out.mono ?_
  rintro r w2 ⟨rfl, hb⟩
  have HB2 := hHd (HB1.out.trans (hb.mono HB1.out.size))
  clear hb
  go_wp2_with fail
  refine (HP1 _ HB2.out).out.mono ?_
  rintro r w3 ⟨d, B, e, rfl, hrd, hd, hb⟩
  have HB3 := hHd (HB2.out.trans (hb.mono HB2.out.size))
  have HRP := hHd hrd
  clear hb hrd hd
  go_wp2_with fail
  refine (HP2 _ HB3.out).out.mono ?_
  rintro r w4 ⟨d2, B2, e2, rfl, hrd, hd, hb⟩
  have HB4 := hHd (HB3.out.trans (hb.mono HB3.out.size))
  have HRP4 := hHd (HRP.out.below' hb)
  have HRS := hHd hrd
  have HDS := hHd hd
  clear hb hrd hd HRP
  go_wp2_with fail
  refine (HP3 _ HB4.out).out.mono ?_
  rintro r w5 ⟨d3, B3, e3, rfl, hrd, hd, hb⟩
  have HB5 := hHd (HB4.out.trans (hb.mono HB4.out.size))
  have HRP5 := hHd (HRP4.out.below' hb)
  have HRS5 := hHd (HRS.out.below' hb)
  have HDS5 := hHd (Nat.lt_of_lt_of_le HDS.out hb.size)
  have HRT := hHd hrd
  clear hb hrd hd HRP4 HRS HDS
  go_wp2_with fail
  refine (HGE _ _ _ _ HRS5.out HDS5.out HB5.out).out.mono ?_
  rintro r w6 ⟨m, rfl, hm, hb⟩
  rw [HGX.out] at hm
  rw [HGX.out]
  have HB6 := hHd (HB5.out.trans (hb.mono HB5.out.size))
  have q1 : (convert 25 9 (.slice B P.length e)).run Tryz.prog w6 = .ok (.string (txt P)) w6 := str_of (HRP5.out.below' hb)
  have q2 : (convert 25 9 (.slice B2 S.length e2)).run Tryz.prog w6 = .ok (.string (txt S)) w6 := str_of (HRS5.out.below' hb)
  have q3 : (convert 25 9 (.slice B3 T.length e3)).run Tryz.prog w6 = .ok (.string (txt T)) w6 := str_of (HRT.out.below' hb)
  obtain ⟨M, mc, rfl⟩ : ∃ M mc, m = .slice M k mc := by obtain ⟨M, mc, e⟩ := hm.shape; rw [HTL.out] at e; exact ⟨M, mc, e⟩
  have HSX := HSM _ _ _ hm HB6.out
  clear hb hm HRP5 HRS5 HDS5 HRT
  go_wp2_with fail
  refine HSX.out.mono ?_
  rintro r w7 ⟨rfl, hb⟩
  have HB7 := hHd (HB6.out.trans (hb.mono HB6.out.size))
  clear hb q1 q2 q3
  go_wp2_with fail
  go_ret
  exact ⟨rfl, HB7.out⟩
theorem editsRows_walk (l : List EdD) (v : Value) (x : Nat) (hx : x < 256) (w : World) (hl : EdsV (Bel w) w v l) (hn : FewN18 l) (hok : fewX18 l = true → OkL18 l) (C : EdtC w) (HA : Awake18 w) : Calls Tryz.prog 6 #[v, .int .u8 (x : Int)] w (Ans9 (.bool true) w) := by
 cases hX : fewX18 l with
 | false => exact editsRows_no l v x w hl hn hX HA
 | true => exact editsRows_yes l v x hx w hl hn hX (hok hX) C HA
end
theorem stepT_len18 {s : Stp} (h : okS s = true) : (stepT s).length ≤ 27 := by
 obtain ⟨h1, h2⟩ := okS_len18 h
 unfold stepT
 split <;> simp only [List.length_cons, List.length_append, List.length_nil] <;> omega
theorem catT_len18 : ∀ l : List Stp, l.all okS = true → (catT l).length ≤ 27 * l.length := by
 intro l
 induction l with
 | nil => intro _; simp [catT]
 | cons s l ih =>
  intro h
  simp only [List.all_cons, Bool.and_eq_true] at h
  have h1 := stepT_len18 h.1
  have h2 := ih h.2
  simp only [catT, List.length_append, List.length_cons]
  omega
theorem show_len18 (l : List Stp) : (showX l).length ≤ 200 := by
 unfold showX
 split
 ·rename_i h
  split
  ·simp
  ·split
   ·simp
   ·have := catT_len18 l h; omega
 ·simp
theorem inI_cnt18 (a : NdD) (r : Fo) : (inI18 leastB a r).cnt ≤ 3 + r.cnt := by
 have hv : (valI18 leastB a r).cnt ≤ 1 + r.cnt := by
  unfold valI18
  split
  ·omega
  ·simp only [Fo.cnt]; omega
 unfold inI18 keyI18
 simp only [Fo.cnt]
 split
 ·omega
 ·simp only [Fo.cnt]; omega
theorem itm_few18 : ∀ f : NdF, OkF f → (itmF18 leastB f).sz ≤ 3145742 * f.size ∧ (itmF18 leastB f).cnt ≤ 4 * f.size := by
 intro f
 induction f with
 | nil => intro _; exact ⟨Nat.le_refl _, Nat.le_refl _⟩
 | cons a k r ihk ihr =>
  intro h
  obtain ⟨k1, k2⟩ := ihk h.2.1
  obtain ⟨r1, r2⟩ := ihr h.2.2
  have h1 := inI_sz18 a (itmF18 leastB k) h.1.num
  have h2 := inI_cnt18 a (itmF18 leastB k)
  have n1 := h.1.name
  have n2 := h.1.key
  have n3 := h.1.text
  simp only [itmF18, Fo.sz, Fo.cnt, Fr.size, List.length_nil]
  constructor <;> omega
theorem node_few18 {x : Nd} (h : OkN x) (hs : x.2.size ≤ 299) : (inI18 leastB x.1 (itmF18 leastB x.2)).sz ≤ 944000000 ∧ (inI18 leastB x.1 (itmF18 leastB x.2)).cnt ≤ 1200 := by
 obtain ⟨h1, h2⟩ := itm_few18 x.2 h.2
 have h3 := inI_sz18 x.1 (itmF18 leastB x.2) h.1.num
 have h4 := inI_cnt18 x.1 (itmF18 leastB x.2)
 have n1 := h.1.name
 have n2 := h.1.key
 have n3 := h.1.text
 constructor <;> omega
theorem its_few18 : ∀ l : List EdD, (∀ e ∈ l, OkN e.node ∧ OkN e.old ∧ e.node.2.size ≤ 299 ∧ e.old.2.size ≤ 299) → (itsE18 leastB l).sz ≤ 1900000000 * l.length ∧ (itsE18 leastB l).cnt ≤ 2410 * l.length := by
 intro l
 induction l with
 | nil => intro _; exact ⟨Nat.le_refl _, Nat.le_refl _⟩
 | cons e l ih =>
  intro h
  obtain ⟨r1, r2⟩ := ih (fun x hx => h x (by simp [hx]))
  obtain ⟨e1, e2, e3, e4⟩ := h e (by simp)
  obtain ⟨p1, p2⟩ := node_few18 e1 e3
  obtain ⟨o1, o2⟩ := node_few18 e2 e4
  have hs := show_len18 e.way
  simp only [itsE18, itm18, Fo.sz, Fo.cnt, List.length_nil, List.length_cons]
  constructor
  ·split <;> split <;> simp only [Fo.sz, List.length_nil] <;> omega
  ·split <;> split <;> simp only [Fo.cnt] <;> omega
theorem okl_few18 {l : List EdD} (hX : fewX18 l = true) (hT : ∀ e ∈ l, (∀ s ∈ e.way, s.1.length ≤ 9223372036854775807 ∧ s.2.length ≤ 9223372036854775807) ∧ OkN e.node ∧ OkN e.old) : OkL18 l := by
 obtain ⟨h1, h2⟩ := fewX18_iff.1 hX
 have hz : ∀ e ∈ l, e.node.2.size ≤ 299 ∧ e.old.2.size ≤ 299 := fun e he => by
  obtain ⟨g1, g2, g3⟩ := h1 e he
  have e1 : sizeX e.node = e.node.2.size + 1 := rfl
  have e2 : sizeX e.old = e.old.2.size + 1 := rfl
  omega
 obtain ⟨g1, g2⟩ := its_few18 l (fun e he => ⟨(hT e he).2.1, (hT e he).2.2, (hz e he).1, (hz e he).2⟩)
 refine ⟨by omega, fun e he => ⟨?_, (hT e he).1, ?_, ?_, (hT e he).2.1, (hT e he).2.2⟩, by omega, by omega⟩
 ·have := (h1 e he).2.2; omega
 ·have := (hz e he).1; omega
 ·have := (hz e he).2; omega
section
attribute [local go_sem] Oper.semAt_some
def upT18 : List UInt8 := [117, 112]
def xE18 : EdD := ⟨2, [(upT18, [])], noN, (⟨upT18, [], 3, 0, []⟩, .nil)⟩
def exB18 : List UInt8 := [5, 15, 2, 3, 47, 117, 112, 5, 8, 0, 2, 117, 112, 4, 2, 3, 0]
def zE18 : EdD := ⟨0, [], noN, noN⟩
theorem ex_put18 : putX18 leastB [xE18] = (exB18, 0) := by decide +kernel
theorem ex_all18 : [xE18].all okE18 = true := by decide +kernel
theorem ex_none18 : [zE18].all okE18 = false := by decide +kernel
theorem ex_bad18 : getX18 leastB V18 [5, 0] = ([], 11) := by decide +kernel
theorem ex_ok18 : OkE18 xE18 := ⟨by decide, fun s hs => (by have e : s = (upT18, []) := (by simpa [xE18] using hs); subst e; decide), by decide, by decide, ⟨⟨by decide, by decide, by decide, by decide, by decide, by decide⟩, trivial⟩, ⟨⟨by decide, by decide, by decide, by decide, by decide, by decide⟩, trivial⟩⟩
theorem ez_ok18 : OkE18 zE18 := ⟨by decide, fun s hs => absurd hs (by simp [zE18]), by decide, by decide, ⟨⟨by decide, by decide, by decide, by decide, by decide, by decide⟩, trivial⟩, ⟨⟨by decide, by decide, by decide, by decide, by decide, by decide⟩, trivial⟩⟩
theorem ex_okl18 : OkL18 [xE18] := ⟨by decide, fun e he => (by have h : e = xE18 := (by simpa using he); subst h; exact ex_ok18), by decide +kernel, by decide +kernel⟩
theorem ez_okl18 : OkL18 [zE18] := ⟨by decide, fun e he => (by have h : e = zE18 := (by simpa using he); subst h; exact ez_ok18), by decide +kernel, by decide +kernel⟩
theorem ex_get18 : getX18 leastB V18 exB18 = ([xE18], 0) := put_get (fun n hn => V_least18 n hn) ex_put18 ex_okl18.num
theorem eds_one18 {w : World} {g : Nat} {cs : List Value} {e : EdD} (hb : Blk w g 55 cs.toArray) (he : EdS (Bel w) w cs e) : EdsV (Bel w) w (.slice (some ⟨g, 0, none⟩) 1 1) [e] :=
 ⟨_, 1, rfl, Nat.le_refl _, fun _ => ⟨g, 0, cs, rfl, hb.lt, ⟨cs, [], by simp, he, rfl⟩, fun j u hj => by rw [Nat.zero_add, hb.cell]; simpa using hj⟩⟩
theorem awake18_at (w : World) (C : EdtC w) : Calls Tryz.prog 7 #[] w (Ans9 (.bool true) w) := by
 have hz1 : (w.alloc (.cells #[.string (txt upT18), .string ⟨#[]⟩] 52)).heap.size = w.heap.size + 1 := by simp
 have hz2 : ((w.alloc (.cells #[.string (txt upT18), .string ⟨#[]⟩] 52)).alloc (.cells #[.int .i64 2, .slice (some ⟨w.heap.size, 0, none⟩) 1 1, .string ⟨#[]⟩, .string ⟨#[]⟩, .int .i64 0, .int .u64 0, .string ⟨#[]⟩, .slice none 0 0, .string (txt upT18), .string ⟨#[]⟩, .int .i64 3, .int .u64 0, .string ⟨#[]⟩, .slice none 0 0] 55)).heap.size = w.heap.size + 1 + 1 := by simp
 have hz3 : (((w.alloc (.cells #[.string (txt upT18), .string ⟨#[]⟩] 52)).alloc (.cells #[.int .i64 2, .slice (some ⟨w.heap.size, 0, none⟩) 1 1, .string ⟨#[]⟩, .string ⟨#[]⟩, .int .i64 0, .int .u64 0, .string ⟨#[]⟩, .slice none 0 0, .string (txt upT18), .string ⟨#[]⟩, .int .i64 3, .int .u64 0, .string ⟨#[]⟩, .slice none 0 0] 55)).alloc (.cells #[.int .i64 2, .slice (some ⟨w.heap.size, 0, none⟩) 1 1, .string ⟨#[]⟩, .string ⟨#[]⟩, .int .i64 0, .int .u64 0, .string ⟨#[]⟩, .slice none 0 0, .string (txt upT18), .string ⟨#[]⟩, .int .i64 3, .int .u64 0, .string ⟨#[]⟩, .slice none 0 0] 55)).heap.size = w.heap.size + 1 + 1 + 1 := by simp
 have hb3 : Below w.heap.size w (((w.alloc (.cells #[.string (txt upT18), .string ⟨#[]⟩] 52)).alloc (.cells #[.int .i64 2, .slice (some ⟨w.heap.size, 0, none⟩) 1 1, .string ⟨#[]⟩, .string ⟨#[]⟩, .int .i64 0, .int .u64 0, .string ⟨#[]⟩, .slice none 0 0, .string (txt upT18), .string ⟨#[]⟩, .int .i64 3, .int .u64 0, .string ⟨#[]⟩, .slice none 0 0] 55)).alloc (.cells #[.int .i64 2, .slice (some ⟨w.heap.size, 0, none⟩) 1 1, .string ⟨#[]⟩, .string ⟨#[]⟩, .int .i64 0, .int .u64 0, .string ⟨#[]⟩, .slice none 0 0, .string (txt upT18), .string ⟨#[]⟩, .int .i64 3, .int .u64 0, .string ⟨#[]⟩, .slice none 0 0] 55)) := (bAl.alloc (by simp) _).alloc (by simp; omega) _
 have hs : Blk (((w.alloc (.cells #[.string (txt upT18), .string ⟨#[]⟩] 52)).alloc (.cells #[.int .i64 2, .slice (some ⟨w.heap.size, 0, none⟩) 1 1, .string ⟨#[]⟩, .string ⟨#[]⟩, .int .i64 0, .int .u64 0, .string ⟨#[]⟩, .slice none 0 0, .string (txt upT18), .string ⟨#[]⟩, .int .i64 3, .int .u64 0, .string ⟨#[]⟩, .slice none 0 0] 55)).alloc (.cells #[.int .i64 2, .slice (some ⟨w.heap.size, 0, none⟩) 1 1, .string ⟨#[]⟩, .string ⟨#[]⟩, .int .i64 0, .int .u64 0, .string ⟨#[]⟩, .slice none 0 0, .string (txt upT18), .string ⟨#[]⟩, .int .i64 3, .int .u64 0, .string ⟨#[]⟩, .slice none 0 0] 55)) w.heap.size 52 #[.string (txt upT18), .string ⟨#[]⟩] := ((Blk.new _ _ _).alloc _).alloc _
 have hx : Blk (((w.alloc (.cells #[.string (txt upT18), .string ⟨#[]⟩] 52)).alloc (.cells #[.int .i64 2, .slice (some ⟨w.heap.size, 0, none⟩) 1 1, .string ⟨#[]⟩, .string ⟨#[]⟩, .int .i64 0, .int .u64 0, .string ⟨#[]⟩, .slice none 0 0, .string (txt upT18), .string ⟨#[]⟩, .int .i64 3, .int .u64 0, .string ⟨#[]⟩, .slice none 0 0] 55)).alloc (.cells #[.int .i64 2, .slice (some ⟨w.heap.size, 0, none⟩) 1 1, .string ⟨#[]⟩, .string ⟨#[]⟩, .int .i64 0, .int .u64 0, .string ⟨#[]⟩, .slice none 0 0, .string (txt upT18), .string ⟨#[]⟩, .int .i64 3, .int .u64 0, .string ⟨#[]⟩, .slice none 0 0] 55)) (w.heap.size + 1 + 1) 55 #[.int .i64 2, .slice (some ⟨w.heap.size, 0, none⟩) 1 1, .string ⟨#[]⟩, .string ⟨#[]⟩, .int .i64 0, .int .u64 0, .string ⟨#[]⟩, .slice none 0 0, .string (txt upT18), .string ⟨#[]⟩, .int .i64 3, .int .u64 0, .string ⟨#[]⟩, .slice none 0 0] := blk_at18 hz2 _ _
 have hed : EdS (Bel (((w.alloc (.cells #[.string (txt upT18), .string ⟨#[]⟩] 52)).alloc (.cells #[.int .i64 2, .slice (some ⟨w.heap.size, 0, none⟩) 1 1, .string ⟨#[]⟩, .string ⟨#[]⟩, .int .i64 0, .int .u64 0, .string ⟨#[]⟩, .slice none 0 0, .string (txt upT18), .string ⟨#[]⟩, .int .i64 3, .int .u64 0, .string ⟨#[]⟩, .slice none 0 0] 55)).alloc (.cells #[.int .i64 2, .slice (some ⟨w.heap.size, 0, none⟩) 1 1, .string ⟨#[]⟩, .string ⟨#[]⟩, .int .i64 0, .int .u64 0, .string ⟨#[]⟩, .slice none 0 0, .string (txt upT18), .string ⟨#[]⟩, .int .i64 3, .int .u64 0, .string ⟨#[]⟩, .slice none 0 0] 55))) (((w.alloc (.cells #[.string (txt upT18), .string ⟨#[]⟩] 52)).alloc (.cells #[.int .i64 2, .slice (some ⟨w.heap.size, 0, none⟩) 1 1, .string ⟨#[]⟩, .string ⟨#[]⟩, .int .i64 0, .int .u64 0, .string ⟨#[]⟩, .slice none 0 0, .string (txt upT18), .string ⟨#[]⟩, .int .i64 3, .int .u64 0, .string ⟨#[]⟩, .slice none 0 0] 55)).alloc (.cells #[.int .i64 2, .slice (some ⟨w.heap.size, 0, none⟩) 1 1, .string ⟨#[]⟩, .string ⟨#[]⟩, .int .i64 0, .int .u64 0, .string ⟨#[]⟩, .slice none 0 0, .string (txt upT18), .string ⟨#[]⟩, .int .i64 3, .int .u64 0, .string ⟨#[]⟩, .slice none 0 0] 55)) (edC 2 (.slice (some ⟨w.heap.size, 0, none⟩) 1 1) zeroT (.slice none 0 0) ⟨upT18, [], 3, 0, []⟩ (.slice none 0 0)) xE18 := by
  refine ⟨_, _, _, rfl, ⟨_, 1, rfl, Nat.le_refl _, fun _ => ⟨w.heap.size, 0, rfl, hs.lt, fun j s hj => ?_⟩⟩, FrV.empty _ _ _, FrV.empty _ _ _⟩
  cases j with
  | zero =>
   injection hj with hj
   subst hj
   exact ⟨(hs.cell 0).trans rfl, (hs.cell 1).trans rfl⟩
  | succ j => simp [xE18] at hj
 have hev : EdsV (Bel (((w.alloc (.cells #[.string (txt upT18), .string ⟨#[]⟩] 52)).alloc (.cells #[.int .i64 2, .slice (some ⟨w.heap.size, 0, none⟩) 1 1, .string ⟨#[]⟩, .string ⟨#[]⟩, .int .i64 0, .int .u64 0, .string ⟨#[]⟩, .slice none 0 0, .string (txt upT18), .string ⟨#[]⟩, .int .i64 3, .int .u64 0, .string ⟨#[]⟩, .slice none 0 0] 55)).alloc (.cells #[.int .i64 2, .slice (some ⟨w.heap.size, 0, none⟩) 1 1, .string ⟨#[]⟩, .string ⟨#[]⟩, .int .i64 0, .int .u64 0, .string ⟨#[]⟩, .slice none 0 0, .string (txt upT18), .string ⟨#[]⟩, .int .i64 3, .int .u64 0, .string ⟨#[]⟩, .slice none 0 0] 55))) (((w.alloc (.cells #[.string (txt upT18), .string ⟨#[]⟩] 52)).alloc (.cells #[.int .i64 2, .slice (some ⟨w.heap.size, 0, none⟩) 1 1, .string ⟨#[]⟩, .string ⟨#[]⟩, .int .i64 0, .int .u64 0, .string ⟨#[]⟩, .slice none 0 0, .string (txt upT18), .string ⟨#[]⟩, .int .i64 3, .int .u64 0, .string ⟨#[]⟩, .slice none 0 0] 55)).alloc (.cells #[.int .i64 2, .slice (some ⟨w.heap.size, 0, none⟩) 1 1, .string ⟨#[]⟩, .string ⟨#[]⟩, .int .i64 0, .int .u64 0, .string ⟨#[]⟩, .slice none 0 0, .string (txt upT18), .string ⟨#[]⟩, .int .i64 3, .int .u64 0, .string ⟨#[]⟩, .slice none 0 0] 55)) (.slice (some ⟨w.heap.size + 1 + 1, 0, none⟩) 1 1) [xE18] := eds_one18 (cs := edC 2 (.slice (some ⟨w.heap.size, 0, none⟩) 1 1) zeroT (.slice none 0 0) ⟨upT18, [], 3, 0, []⟩ (.slice none 0 0)) hx hed
 have hpu := C.put [xE18] _ (((w.alloc (.cells #[.string (txt upT18), .string ⟨#[]⟩] 52)).alloc (.cells #[.int .i64 2, .slice (some ⟨w.heap.size, 0, none⟩) 1 1, .string ⟨#[]⟩, .string ⟨#[]⟩, .int .i64 0, .int .u64 0, .string ⟨#[]⟩, .slice none 0 0, .string (txt upT18), .string ⟨#[]⟩, .int .i64 3, .int .u64 0, .string ⟨#[]⟩, .slice none 0 0] 55)).alloc (.cells #[.int .i64 2, .slice (some ⟨w.heap.size, 0, none⟩) 1 1, .string ⟨#[]⟩, .string ⟨#[]⟩, .int .i64 0, .int .u64 0, .string ⟨#[]⟩, .slice none 0 0, .string (txt upT18), .string ⟨#[]⟩, .int .i64 3, .int .u64 0, .string ⟨#[]⟩, .slice none 0 0] 55)) hev ex_okl18 hb3
 rw [ex_put18] at hpu
 have HPU := hHd hpu
 have HB3 := hHd hb3
 have HGE : ∀ W d B e, Rd W d (.slice B 17 e) exB18 → d < W.heap.size → Below w.heap.size w W → Hid (Calls Tryz.prog 13 #[.slice B 17 e] W (GetP18 exB18 W)) := fun W d B e hr hd hW => hHd (C.get exB18 _ d W hr (by decide) hW)
 have HGB : ∀ W d, Rd W d (.slice (some ⟨d, 0, none⟩) 2 2) [5, 0] → d < W.heap.size → Below w.heap.size w W → Hid (Calls Tryz.prog 13 #[.slice (some ⟨d, 0, none⟩) 2 2] W (GetP18 [5, 0] W)) := fun W d hr hd hW => hHd (C.get [5, 0] _ d W hr (by decide) hW)
 have HC1 : ∀ W M mc, EdsV (Bel W) W (.slice M 1 mc) [xE18] → Below w.heap.size w W → Hid (Calls Tryz.prog 11 #[.slice M 1 mc] W (Ans9 (.bool true) W)) := fun W M mc hv hW => hHd (by have h := C.check [xE18] _ W hv ex_okl18 hW; rw [ex_all18] at h; exact h)
 have HC2 : ∀ W g, Blk W g 55 #[.int .i64 0, .slice none 0 0, .string ⟨#[]⟩, .string ⟨#[]⟩, .int .i64 0, .int .u64 0, .string ⟨#[]⟩, .slice none 0 0, .string ⟨#[]⟩, .string ⟨#[]⟩, .int .i64 0, .int .u64 0, .string ⟨#[]⟩, .slice none 0 0] → Below w.heap.size w W → Hid (Calls Tryz.prog 11 #[.slice (some ⟨g, 0, none⟩) 1 1] W (Ans9 (.bool false) W)) := fun W g hb hW => hHd (by
  have hed : EdS (Bel W) W (edC 0 (.slice none 0 0) zeroT (.slice none 0 0) zeroT (.slice none 0 0)) zE18 := ⟨_, _, _, rfl, WayV.s (WayV.nil _ _ _ _), FrV.empty _ _ _, FrV.empty _ _ _⟩
  have h := C.check [zE18] _ W (eds_one18 hb hed) ez_okl18 hW
  rw [ex_none18] at h
  exact h)
 clear hz1 hz2 hz3 hb3 hs hx hed hev hpu
 go_enter Tryz.func7, Tryz.ntmps7
 go_wp2_with fail
 refine HPU.out.mono ?_
 rintro r w4 ⟨d, B, e, rfl, hrd, hd, hb⟩
 have HB4 := hHd (HB3.out.trans (hb.mono HB3.out.size))
 have HRD := hHd hrd
 have HD := hHd hd
 clear hb hrd hd HPU
 go_wp2_with fail
 refine (HGE _ _ _ _ HRD.out HD.out HB4.out).out.mono ?_
 rintro r w5 ⟨m, rfl, hm, hb⟩
 rw [ex_get18] at hm
 rw [ex_get18]
 obtain ⟨M, mc, rfl⟩ : ∃ M mc, m = .slice M 1 mc := hm.shape
 have HB5 := hHd (HB4.out.trans (hb.mono HB4.out.size))
 have HRD5 := hHd (HRD.out.below' hb)
 have HM5 := hHd hm
 clear hb hm HRD HD
 have hb56 : Below w5.heap.size w5 (w5.alloc (.cells #[.int .u8 5, .int .u8 0] 5)) := bAl
 have HB56 := hHd (HB5.out.trans (hb56.mono HB5.out.size))
 have HM56 := hHd (HM5.out.below hb56)
 have HRD56 := hHd (HRD5.out.below' hb56)
 have HR5 : Hid (Rd (w5.alloc (.cells #[.int .u8 5, .int .u8 0] 5)) w5.heap.size (.slice (some ⟨w5.heap.size, 0, none⟩) 2 2) [5, 0]) := hHd (lit2_18 w5 5 0)
 have HS5 : Hid (w5.heap.size < (w5.alloc (.cells #[.int .u8 5, .int .u8 0] 5)).heap.size) := hHd (by simp)
 clear hb56 HRD5 HM5
 go_wp2_with fail
 refine (HGB _ _ HR5.out HS5.out HB56.out).out.mono ?_
 rintro r w6 ⟨n, rfl, hn, hb⟩
 rw [ex_bad18]
 have HB6 := hHd (HB56.out.trans (hb.mono HB56.out.size))
 have HM6 := hHd (HM56.out.below hb)
 have q1 : (convert 25 9 (.slice B exB18.length e)).run Tryz.prog w6 = .ok (.string (txt exB18)) w6 := str_of (HRD56.out.below' hb)
 clear hn hb HR5 HS5 HRD56 HM56
 obtain ⟨g, o, Aw, cw, An, cn, Ao, co, rfl, -, -, hg, -, -, -, hcl⟩ := HM6.out.at (j := 0) (e := xE18) rfl
 have c8 : w6.cell? ⟨g, o + 8, none⟩ = some (.string (txt upT18)) := by have h := hcl 8 _ rfl; simp only [Nat.zero_mul, Nat.add_zero] at h; exact h
 have HCK := HC1 _ _ _ HM6.out HB6.out
 have t1 : (txt exB18).toList = exB18 := txt_toList _
 have t2 : (txt upT18).toList = upT18 := txt_toList _
 have t3 : (exB18 == [5, 15, 2, 3, 47, 117, 112, 5, 8, 0, 2, 117, 112, 4, 2, 3, 0]) = true := by decide
 have t4 : (upT18 == [117, 112]) = true := by decide
 have e1 : txt exB18 = ⟨#[5, 15, 2, 3, 47, 117, 112, 5, 8, 0, 2, 117, 112, 4, 2, 3, 0]⟩ := rfl
 have e2 : txt upT18 = ⟨#[117, 112]⟩ := rfl
 rw [e1] at q1
 rw [e2] at c8
 clear hcl e1 e2 t1 t2 t3 t4
 go_wp2_with fail
 refine HCK.out.mono ?_
 rintro r w7 ⟨rfl, hb⟩
 have HB7 := hHd (HB6.out.trans (hb.mono HB6.out.size))
 have HCZ := HC2 (w7.alloc (.cells #[.int .i64 0, .slice none 0 0, .string ⟨#[]⟩, .string ⟨#[]⟩, .int .i64 0, .int .u64 0, .string ⟨#[]⟩, .slice none 0 0, .string ⟨#[]⟩, .string ⟨#[]⟩, .int .i64 0, .int .u64 0, .string ⟨#[]⟩, .slice none 0 0] 55)) w7.heap.size (Blk.new _ _ _) (HB7.out.trans ((bAl : Below w7.heap.size w7 (w7.alloc (.cells #[.int .i64 0, .slice none 0 0, .string ⟨#[]⟩, .string ⟨#[]⟩, .int .i64 0, .int .u64 0, .string ⟨#[]⟩, .slice none 0 0, .string ⟨#[]⟩, .string ⟨#[]⟩, .int .i64 0, .int .u64 0, .string ⟨#[]⟩, .slice none 0 0] 55))).mono HB7.out.size))
 have HB8 : Hid (Below w.heap.size w (w7.alloc (.cells #[.int .i64 0, .slice none 0 0, .string ⟨#[]⟩, .string ⟨#[]⟩, .int .i64 0, .int .u64 0, .string ⟨#[]⟩, .slice none 0 0, .string ⟨#[]⟩, .string ⟨#[]⟩, .int .i64 0, .int .u64 0, .string ⟨#[]⟩, .slice none 0 0] 55))) := hHd (HB7.out.trans ((bAl : Below w7.heap.size w7 (w7.alloc (.cells #[.int .i64 0, .slice none 0 0, .string ⟨#[]⟩, .string ⟨#[]⟩, .int .i64 0, .int .u64 0, .string ⟨#[]⟩, .slice none 0 0, .string ⟨#[]⟩, .string ⟨#[]⟩, .int .i64 0, .int .u64 0, .string ⟨#[]⟩, .slice none 0 0] 55))).mono HB7.out.size))
 clear hb q1 c8
 go_wp2_with fail
 refine HCZ.out.mono ?_
 rintro r w9 ⟨rfl, hb⟩
 have HB9 := hHd (HB8.out.trans (hb.mono HB8.out.size))
 clear hb
 go_wp2_with fail
 go_ret
 exact ⟨rfl, HB9.out⟩
theorem EdtC.later {w W : World} (C : EdtC w) (h : Below w.heap.size w W) : EdtC W where
 check l v W2 a b c := C.check l v W2 a b (h.trans (c.mono h.size))
 put l v W2 a b c := C.put l v W2 a b (h.trans (c.mono h.size))
 get s b d W2 a1 a2 c := C.get s b d W2 a1 a2 (h.trans (c.mono h.size))
theorem awake18 {w : World} (C : EdtC w) : Awake18 w := fun W h => awake18_at W (C.later h)
end
section
open Go.ChangeShapes Go.WideShapes Go.Deep
theorem bulk_one9 {H : Type} (d : DataW H) : 1 ≤ Rows.uptoBulk d := by
 cases d with
 | lit l => cases l <;> simp [Rows.uptoBulk]
 | nil => simp [Rows.uptoBulk]
 | ptr d => simp [Rows.uptoBulk]
 | slice elems spare => simp [Rows.uptoBulk]
 | agg parts => simp [Rows.uptoBulk]
 | iface t d => simp [Rows.uptoBulk]
 | map entries => simp [Rows.uptoBulk]
 | held h => simp [Rows.uptoBulk]
theorem add_bare9 (b o j : Nat) : (⟨b, o, none⟩ : Addr).add j = ⟨b, o + j, none⟩ := by unfold Addr.add; split <;> simp_all
theorem cellsNode : Tryz.prog.cellsOf 42 = 6 := by kernel_rfl
theorem cellsVal : Tryz.prog.cellsOf 39 = 3 := by kernel_rfl
theorem cellsStr9 : Tryz.prog.cellsOf 9 = 1 := by kernel_rfl
theorem cellsInt9 : Tryz.prog.cellsOf 3 = 1 := by kernel_rfl
theorem cellsU64 : Tryz.prog.cellsOf 37 = 1 := by kernel_rfl
theorem cellsNds : Tryz.prog.cellsOf 40 = 1 := by kernel_rfl
theorem cellsStep : Tryz.prog.cellsOf 52 = 2 := by kernel_rfl
end
section
open Go.ChangeShapes Go.WideShapes Go.Deep
theorem cellsEdit : Tryz.prog.cellsOf 55 = 14 := by kernel_rfl
theorem cellsWay16 : Tryz.prog.cellsOf 53 = 1 := by kernel_rfl
end
section
open Go.ChangeShapes Go.WideShapes Go.Deep
theorem open_way15 {H : Type} {enc : TypeId × Value → H} {W : World} {fuel : Nat} {v : Value} {x : DataW H × List MemPlace} (h : DataW.trod enc Tryz.prog W 0 (fun _ => true) true fuel 53 [v] = some x) : ∃ l, WayV W.heap.size W v l ∧ ∀ s ∈ l, s.1.length ≤ 9223372036854775807 ∧ s.2.length ≤ 9223372036854775807 := by
 rcases DataW.trod_slice Tryz.underlying53 h with ⟨hcs, rfl⟩ | ⟨a, len, cap, elems, rest, n, rfl, hcs, rfl, hb, hl, hm, hlen, hel, -, -⟩
 ·simp at hcs
  subst hcs
  exact ⟨[], WayV.nil _ _ _ _, by simp⟩
 ·simp at hcs
  subst hcs
  by_cases h0 : 0 < len
  ·have hcell0 : ∃ u, W.cell? a = some u := by
    have h1 := hel 0 h0
    rw [List.getElem?_eq_getElem (by omega)] at h1
    obtain ⟨cs', h2, _⟩ := Option.bind_eq_some_iff.1 h1
    rw [cellsStep] at h2
    obtain ⟨_, h3, h4⟩ := World.cells?_some h2
    have h5 := h4 0 (by omega)
    rw [List.getElem?_eq_getElem (by omega)] at h5
    exact ⟨_, by simpa [Addr.add] using h5⟩
   obtain ⟨u0, hu0⟩ := hcell0
   have hsp0 : a.spot = none := World.cell?_spot hu0
   have hlt : a.block < W.heap.size := World.block_lt_of_cell? W _ hu0
   obtain ⟨b, off, sp⟩ := a
   have hsp : sp = none := hsp0
   subst hsp
   have rows : ∀ m, m ≤ len → ∃ l : List Stp, l.length = m ∧ ∀ j s, l[j]? = some s → W.cell? ⟨b, off + (len - m + j) * 2, none⟩ = some (.string (txt s.1)) ∧ W.cell? ⟨b, off + (len - m + j) * 2 + 1, none⟩ = some (.string (txt s.2)) ∧ s.1.length ≤ 9223372036854775807 ∧ s.2.length ≤ 9223372036854775807 := by
    intro m
    induction m with
    | zero => intro _; exact ⟨[], rfl, fun j s h => by simp at h⟩
    | succ m ihm =>
     intro hm'
     obtain ⟨r, hr1, hr2⟩ := ihm (by omega)
     obtain ⟨i, hi⟩ : ∃ i, i = len - (m + 1) := ⟨_, rfl⟩
     have hi1 : len - m = i + 1 := by omega
     have hil : i < len := by omega
     rw [hi1] at hr2
     rw [← hi]
     have h1 := hel i hil
     have hie : i < elems.length := by omega
     rw [List.getElem?_eq_getElem hie] at h1
     obtain ⟨cs', h2, h3⟩ := Option.bind_eq_some_iff.1 h1
     rw [cellsStep] at h2
     obtain ⟨_, hcl, hat⟩ := World.cells?_some h2
     have hcc : ∀ j, j < 2 → W.cell? ⟨b, off + i * 2 + j, none⟩ = cs'[j]? := fun j hj => by
      have h5 := hat j hj
      rw [add_bare9, add_bare9] at h5
      exact h5
     obtain ⟨ys, k, hk, hy, hlen', hyl, hf⟩ := DataW.trod_struct Tryz.underlying52 h3
     have hyl' : ys.length = 2 := hyl
     match cs', hcl, ys, hyl' with
     | [v0, v1], _, [y0, y1], _ =>
      have f0 : DataW.trod enc Tryz.prog W 0 (fun _ => true) true k 9 (List.take (Tryz.prog.cellsOf 9) (List.drop 0 [v0, v1])) = some _ := (hf 0 _ rfl).trans rfl
      have f1 : DataW.trod enc Tryz.prog W 0 (fun _ => true) true k 9 (List.take (Tryz.prog.cellsOf 9) (List.drop 1 [v0, v1])) = some _ := (hf 1 _ rfl).trans rfl
      rw [cellsStr9] at f0 f1
      simp only [List.drop_zero, List.drop_succ_cons, List.take_succ_cons, List.take_zero] at f0 f1
      obtain ⟨s0, e0, _, z0⟩ := DataW.trod_string Tryz.underlying9 f0
      obtain ⟨s1, e1, _, z1⟩ := DataW.trod_string Tryz.underlying9 f1
      simp at e0 e1
      subst e0 e1
      refine ⟨(s0.data.toList, s1.data.toList) :: r, by simp [hr1], fun j s hj => ?_⟩
      cases j with
      | zero =>
       simp at hj
       subst hj
       have g0 := hcc 0 (by omega)
       have g1 := hcc 1 (by omega)
       simp only [Nat.add_zero, List.getElem?_cons_zero, List.getElem?_cons_succ] at g0 g1
       unfold maxLen at z0 z1
       refine ⟨?_, ?_, by have h9 := txt_size s0.data.toList; rw [show txt s0.data.toList = s0 from txt_ext (txt_data _)] at h9; show s0.data.toList.length ≤ _; rw [← h9]; exact z0, by have h9 := txt_size s1.data.toList; rw [show txt s1.data.toList = s1 from txt_ext (txt_data _)] at h9; show s1.data.toList.length ≤ _; rw [← h9]; exact z1⟩
       ·rw [show i + 0 = i from rfl, g0, show txt s0.data.toList = s0 from txt_ext (txt_data _)]
       ·rw [show i + 0 = i from rfl, g1, show txt s1.data.toList = s1 from txt_ext (txt_data _)]
      | succ j =>
       have h9 := hr2 j s (by simpa using hj)
       rw [show i + 1 + j = i + (j + 1) by omega] at h9
       exact h9
   obtain ⟨l, hl1, hl2⟩ := rows len (Nat.le_refl _)
   rw [Nat.sub_self] at hl2
   subst hl1
   refine ⟨l, ⟨_, cap, rfl, by omega, fun _ => ⟨b, off, rfl, hlt, fun j s hs => ?_⟩⟩, fun s hs => ?_⟩
   ·have h9 := hl2 j s hs
    rw [Nat.zero_add] at h9
    exact ⟨h9.1, h9.2.1⟩
   ·obtain ⟨j, hj, e⟩ := List.getElem_of_mem hs
    exact (hl2 j s (by rw [List.getElem?_eq_getElem hj, e])).2.2
  ·obtain rfl : len = 0 := by omega
   exact ⟨[], WayV.nil _ _ _ _, by simp⟩
end
end Go.Proofs.YtleidkpdpabkpaaGreatDoor
