/- DifRefA EdtRefB TlvAll TlvRight TlvCheck EdtRefE -/
import Derived.Test.YtleidkpdpabkpaaGreatDoorBM12
set_option linter.unusedSimpArgs false
set_option linter.unusedVariables false
set_option maxRecDepth 100000
set_option maxHeartbeats 8000000
namespace Go.Proofs.YtleidkpdpabkpaaGreatDoor
open Go.RowKit
section
attribute [local go_sem] Oper.semAt_some
abbrev Bel (w : World) : Nat → Prop := fun g => g < w.heap.size
theorem EdsV.below {w w' : World} {v : Value} {l : List EdD} (h : EdsV (Bel w) w v l) (hb : Below w.heap.size w w') : EdsV (Bel w') w' v l := h.keep (fun g hg => hb.block g hg) (fun g hg => Nat.lt_of_lt_of_le hg hb.size)
def FewE (l : List EdD) : Prop := l.length ≤ 1000000 ∧ ∀ e ∈ l, e.way.length ≤ 1000000 ∧ Few9 e.node ∧ Few9 e.old
def InvP (l : List EdD) (w : World) (r : Ending) (w' : World) : Prop := ∃ v, r = .returned v ∧ EdsV (Bel w') w' v l ∧ Below w.heap.size w w'
theorem OwnE.bel {base : Nat} {S : Nat → Prop} {w : World} {v : Value} {l : List EdD} (h : OwnE base S w v l) : EdsV (Bel w) w v l := h.eds.keep (fun _ _ => rfl) (fun g hg => hg.elim (fun h' => (h.1 g h').1) (fun h' => (h.lt g h').2))
end
section
attribute [local go_sem] Oper.semAt_some
structure OkE18 (e : EdD) : Prop where
 way : e.way.length ≤ 1000000
 txts : ∀ s ∈ e.way, s.1.length ≤ 9223372036854775807 ∧ s.2.length ≤ 9223372036854775807
 node : e.node.2.size ≤ 1000000
 old : e.old.2.size ≤ 1000000
 nodeT : OkN e.node
 oldT : OkN e.old
theorem all_take18 {l : List EdD} {j : Nat} {x : EdD} (hx : l[j]? = some x) (h : (l.take j).all okE18 = true) (h2 : okE18 x = true) : (l.take (j + 1)).all okE18 = true := by
 rw [List.take_add_one, hx, List.all_append, h]
 simp [h2]
theorem all_no18 {l : List EdD} {j : Nat} {x : EdD} (hx : l[j]? = some x) (h2 : okE18 x = false) : l.all okE18 = false := by
 rw [Bool.eq_false_iff]
 intro h
 rw [List.all_eq_true] at h
 rw [h x (List.mem_of_getElem? hx)] at h2
 cases h2
end
def AllPost (f : Fo) (w : World) (r : Ending) (w' : World) : Prop := r = .returned (.string (txt f.all)) ∧ Below w.heap.size w w'
theorem pow_ten' {x : Nat} (h : x < 18446744073709551616) : x < 128 ^ (9 + 1) := by
 have : (18446744073709551616 : Nat) < 128 ^ (9 + 1) := by decide
 omega
theorem rput_at (x : Nat) (xI : Int) (P : List UInt8) (w : World) (h : x < 18446744073709551616) (e : xI = (x : Int)) (hP : P = encV 9 x) :
  Calls Tryz.prog 39 #[.int .u64 xI] w fun r w' => r = .returned (.string (txt P)) ∧ Below w.heap.size w w' := by
 subst e hP
 exact rput_any 9 (by omega) x w (pow_ten' h) h
theorem Fo.all_take (j : Nat) {f : Fo} {t : Nat} {d : List UInt8} {k : Fo} (h : Fo.take (j + 1) f = (Fo.take j f).app (.cons t d k .nil)) :
  (Fo.take (j + 1) f).all = (Fo.take j f).all ++ ((encV 9 t ++ encV 9 (Fo.inn t d k.all).length) ++ Fo.inn t d k.all) := by
 rw [h, Fo.all_app]
 simp only [Fo.all, List.append_nil, List.append_assoc]
theorem Fo.all_take_le (j : Nat) (f : Fo) : (Fo.take j f).all.length ≤ f.all.length := by
 have h := Fo.all_app (Fo.take j f) (Fo.drop j f)
 rw [Fo.take_app_drop] at h
 rw [h, List.length_append]; omega
theorem all_any (f : Fo) : ∀ (w : World) (v : Value), FV DataR w (Lo w) v f → f.sz ≤ 1099511627776 → Calls Tryz.prog 19 #[v] w (AllPost f w) := by
 refine Fo.byKids (P := fun f => ∀ (w : World) (v : Value), FV DataR w (Lo w) v f → f.sz ≤ 1099511627776 → Calls Tryz.prog 19 #[v] w (AllPost f w)) ?_ f
 clear f
 intro f hkids w v hv hsz
 obtain ⟨A, c, rfl⟩ := hv.shape
 have hws := f.wt_le_sz
 have hlw := f.len_le_wt
 have hal := f.all_le
 have hlen40 : f.len ≤ 1099511627776 := by omega
 have hall : f.all.length ≤ 22000000000000 := by omega
 have HK : Hid (Fo.kidsAll (fun f => ∀ (w : World) (v : Value), FV DataR w (Lo w) v f → f.sz ≤ 1099511627776 → Calls Tryz.prog 19 #[v] w (AllPost f w)) f) := hHd hkids
 clear hkids hws hlw hal
 go_enter Tryz.func19, Tryz.ntmps19
 go_wp2
 go_loopw [3, 4] (fun u i wr => ∃ (j : Nat) (T : List UInt8), j ≤ f.len ∧ i = .int .i64 (j : Int) ∧ u = .string (txt T) ∧ Hid (T = (Fo.take j f).all) ∧ Below w.heap.size w wr) (fun _ i _ => f.len - (intOf i).toNat)
 case atStart => exact ⟨0, [], Nat.zero_le _, rfl, rfl, hHd rfl, Below.refl _ _⟩
 case round =>
  obtain ⟨j, T, hj, rfl, rfl, HT, hB⟩ := hrel
  by_cases hlt : j < f.len
  ·obtain ⟨b, o, c', t, d, k, hve, hcap, hS, hdr, htk, ht64, hc0, ⟨dv, hc1, hdv⟩, ⟨kv, hc2, hkv⟩⟩ := hv.at hlt
   injection hve with e1 e2 e3
   subst e1 e3
   have hSb : b < w.heap.size := hS
   have hdv' : dv = .string (txt d) := hdv
   subst hdv'
   have hdrop : (Fo.drop j f).sz ≤ f.sz := by
    have h := Fo.sz_app (Fo.take j f) (Fo.drop j f)
    rw [Fo.take_app_drop] at h
    omega
   rw [hdr] at hdrop
   simp only [Fo.sz] at hdrop
   have hIH : ∀ (w : World) (v : Value), FV DataR w (Lo w) v k → k.sz ≤ 1099511627776 → Calls Tryz.prog 19 #[v] w (AllPost k w) := by
    have h := Fo.kidsAll_drop j HK.out
    rw [hdr] at h
    exact h.1
   have hks40 : k.sz ≤ 1099511627776 := by omega
   have hkv2 : FV DataR wr (Lo wr) kv k := hkv.kept stays_R (fun g hg => hB.block g hg) (fun _ hg => Nat.lt_of_lt_of_le hg hB.size)
   have HI := hHd (hIH wr kv hkv2 hks40)
   obtain ⟨P, hP⟩ : ∃ P, P = encV 9 t := ⟨_, rfl⟩
   obtain ⟨I, hI⟩ : ∃ I, I = Fo.inn t d k.all := ⟨_, rfl⟩
   obtain ⟨L, hL⟩ : ∃ L, L = encV 9 I.length := ⟨_, rfl⟩
   obtain ⟨PL, hPL⟩ : ∃ PL, PL = P ++ L := ⟨_, rfl⟩
   obtain ⟨PLI, hPLI⟩ : ∃ PLI, PLI = PL ++ I := ⟨_, rfl⟩
   obtain ⟨T', hT'⟩ : ∃ T', T' = T ++ PLI := ⟨_, rfl⟩
   have hTn : T' = (Fo.take (j + 1) f).all := by rw [Fo.all_take j htk, hT', hPLI, hPL, hL, hP, hI, HT.out]
   have hTl : T'.length ≤ f.all.length := by rw [hTn]; exact Fo.all_take_le _ _
   have l1 : T'.length = T.length + PLI.length := by rw [hT', List.length_append]
   have l2 : PLI.length = PL.length + I.length := by rw [hPLI, List.length_append]
   have l3 : PL.length = P.length + L.length := by rw [hPL, List.length_append]
   have x1 : txt P ++ txt L = txt PL := by rw [hPL]; exact txt_append P L
   have x2 : txt PL ++ txt I = txt PLI := by rw [hPLI]; exact txt_append PL I
   have x3 : txt T ++ txt PLI = txt T' := by rw [hT']; exact txt_append T PLI
   have s1 := txt_size P
   have s2 := txt_size L
   have s3 := txt_size PL
   have s4 := txt_size I
   have s5 := txt_size PLI
   have s6 := txt_size T
   have c1 : ¬ 9223372036854775807 < P.length + L.length := by omega
   have c2 : ¬ 9223372036854775807 < PL.length + I.length := by omega
   have c3 : ¬ 9223372036854775807 < T.length + PLI.length := by omega
   have hI64 : I.length < 18446744073709551616 := by omega
   have hI63 : I.length ≤ 22000000000000 := by omega
   have HTN := hHd hTn
   have HP := hHd hP
   have HL := hHd hL
   have HT64 := hHd ht64
   have HI64 := hHd hI64
   have i1 : (0 : Int) ≤ (j : Int) := by omega
   have i2 : (j : Int) < (f.len : Int) := by omega
   have hC0 : wr.cell? ⟨b, o + j * 3, none⟩ = some (.int .u64 (t : Int)) := (hB.cell (p := ⟨b, o + j * 3, none⟩) hSb).trans hc0
   have hC1 : wr.cell? ⟨b, o + j * 3 + 1, none⟩ = some (.string (txt d)) := (hB.cell (p := ⟨b, o + j * 3 + 1, none⟩) hSb).trans hc1
   have hC2 : wr.cell? ⟨b, o + j * 3 + 2, none⟩ = some kv := (hB.cell (p := ⟨b, o + j * 3 + 2, none⟩) hSb).trans hc2
   clear hIH hkv hkv2 hdr htk hc0 hc1 hc2 e2 hS hdrop hsz hTl l1 l2 l3 hP hL hPL hPLI hT' hTn ht64 hI64 hdv
   by_cases hodd : t % 2 = 1
   ·have hb : ((t : Int) % 2 == 1) = true := by
     have h : (t : Int) % 2 = 1 := by omega
     rw [h]; rfl
    have hIk : I = k.all := by rw [hI]; unfold Fo.inn; rw [if_pos hodd]
    have HIK := hHd hIk
    clear hodd hI hIk
    go_wp2_with fail
    refine HI.out.mono ?_
    rintro r w6 ⟨rfl, hb6⟩
    rw [← HIK.out]
    have hB6 := hB.trans (hb6.mono hB.size)
    have hC6 : w6.cell? ⟨b, o + j * 3, none⟩ = some (.int .u64 (t : Int)) := (hb6.cell (p := ⟨b, o + j * 3, none⟩) (Nat.lt_of_lt_of_le hSb hB.size)).trans hC0
    clear hb6 hB hC0 hC1 hC2
    go_wp2_with fail
    refine (rput_at t _ P _ HT64.out rfl HP.out).mono ?_
    rintro r w7 ⟨rfl, hb7⟩
    have hB7 := hB6.trans (hb7.mono hB6.size)
    clear hb7 hB6 hC6
    go_wp2_with fail
    refine (rput_at I.length _ L _ HI64.out rfl HL.out).mono ?_
    rintro r w8 ⟨rfl, hb8⟩
    have hB8 := hB7.trans (hb8.mono hB7.size)
    clear hb8 hB7
    go_wp2
    go_roundw
    case rel => exact ⟨j + 1, T', by omega, by go_num, rfl, HTN, hB8⟩
    case measure => simp [intOf]; omega
   ·have hb : ((t : Int) % 2 == 1) = false := by
     have h : (t : Int) % 2 = 0 := by omega
     rw [h]; rfl
    have hId : I = d := by rw [hI]; unfold Fo.inn; rw [if_neg hodd]
    subst hId
    clear hodd hI
    go_wp2_with fail
    refine (rput_at t _ P _ HT64.out rfl HP.out).mono ?_
    rintro r w7 ⟨rfl, hb7⟩
    have hB7 := hB.trans (hb7.mono hB.size)
    clear hb7 hB hC0 hC1 hC2
    go_wp2_with fail
    refine (rput_at I.length _ L _ HI64.out rfl HL.out).mono ?_
    rintro r w8 ⟨rfl, hb8⟩
    have hB8 := hB7.trans (hb8.mono hB7.size)
    clear hb8 hB7
    go_wp2
    go_roundw
    case rel => exact ⟨j + 1, T', by omega, by go_num, rfl, HTN, hB8⟩
    case measure => simp [intOf]; omega
  ·obtain rfl : j = f.len := by omega
   have hTe : T = f.all := by rw [HT.out, Fo.take_all]
   subst hTe
   clear hlt
   go_wp2
   go_ret
   exact ⟨rfl, hB⟩
theorem Fo.right_at (deep j : Nat) {f : Fo} {t : Nat} {d : List UInt8} {k : Fo} (h : Fo.drop j f = .cons t d k (Fo.drop (j + 1) f)) :
  Fo.right deep f = (Fo.right deep (Fo.take j f) && (decide (deep ≤ 6) && (if t % 2 = 1 then d.isEmpty else k.len == 0) && Fo.right (deep + 1) k && Fo.right deep (Fo.drop (j + 1) f))) := by
 conv => lhs; rw [← Fo.take_app_drop j f, Fo.right_app, h]
 rfl
theorem Fo.right_take (deep j : Nat) {f : Fo} {t : Nat} {d : List UInt8} {k : Fo} (h : Fo.take (j + 1) f = (Fo.take j f).app (.cons t d k .nil)) :
  Fo.right deep (Fo.take (j + 1) f) = (Fo.right deep (Fo.take j f) && (decide (deep ≤ 6) && (if t % 2 = 1 then d.isEmpty else k.len == 0) && Fo.right (deep + 1) k)) := by
 rw [h, Fo.right_app]
 simp only [Fo.right, Bool.and_true]
def Fo.ok (f : Fo) : Bool := Fo.right 1 f && decide (f.all.length ≤ 8192)
section
attribute [local go_sem] Oper.semAt_some
def StE18 (w7 : World) (cs : Array Value) (u : Value) (F : Fo) (W : World) : Prop :=
 Blk W w7.heap.size 55 cs ∧ OwnF DataR 79 W (w7.heap.size + 1) u F ∧ Below w7.heap.size w7 W ∧ w7.heap.size + 1 ≤ W.heap.size
theorem StE18.go {w7 : World} {cs : Array Value} {u : Value} {F : Fo} {W W' : World} (h : StE18 w7 cs u F W) (hb : Below W.heap.size W W') : StE18 w7 cs u F W' :=
 ⟨h.1.below hb h.1.lt, h.2.1.below stays_R hb, h.2.2.1.trans (hb.mono h.2.2.1.size), Nat.le_trans h.2.2.2 hb.size⟩
theorem StE18.app {w7 : World} {cs : Array Value} {u v' : Value} {F G : Fo} {W w' : World} (h : StE18 w7 cs u F W) (hap : AppF DataR 79 W (w7.heap.size + 1) u G v' w') : StE18 w7 cs v' G w' := by
 obtain ⟨h1, h2, h3, h4⟩ := h
 have hb := hap.below h2 h4
 exact ⟨h1.grown hap.2.1 (fun e => by have := (h2.lt _ e.symm).1; omega), hap.1, h3.trans (hb.mono (Nat.le_succ _)), Nat.le_trans h4 hap.2.1.size⟩
def ItsP18 (F : Fo) (w : World) (r : Ending) (w' : World) : Prop := ∃ u, r = .returned u ∧ OwnF DataR 79 w' w.heap.size u F ∧ Below w.heap.size w w'
theorem its_len18 (L : Nat → List UInt8) (l : List EdD) : (itsE18 L l).len = l.length := by
 induction l with
 | nil => rfl
 | cons e l ih => simp only [itsE18, Fo.len, List.length_cons, ih]
theorem its_take18 {L : Nat → List UInt8} {l : List EdD} {j : Nat} {x : EdD} (hx : l[j]? = some x) : itsE18 L (l.take (j + 1)) = (itsE18 L (l.take j)).app (itsE18 L [x]) := by
 rw [List.take_add_one, hx, its_app18]
 rfl
theorem ritems18_any (l : List EdD) (v : Value) (w : World) (hv : EdsV (Bel w) w v l) (hl : l.length ≤ 1000000) (hok : ∀ e ∈ l, OkE18 e) (hall : ∀ e ∈ l, okE18 e = true) :
  Calls Tryz.prog 20 #[v] w (ItsP18 (itsE18 leastB l) w) := by
 obtain ⟨B, d, rfl⟩ := hv.shape
 have HV := hHd hv
 have HF := hHd hok
 have HA := hHd hall
 have HL := hHd hl
 have HB0 : Hid (Below w.heap.size w w) := hHd (Below.refl _ _)
 clear hv hok hall hl
 go_enter Tryz.func20, Tryz.ntmps20
 go_wp2
 go_loopw [3, 4] (fun u vi wr => ∃ (v : Value) (j : Nat), j ≤ l.length ∧ v = u ∧ vi = .int .i64 (j : Int) ∧ Hid (OwnF DataR 79 wr w.heap.size v (itsE18 leastB (l.take j))) ∧ Hid (Below w.heap.size w wr)) (fun _ vi _ => l.length - (intOf vi).toNat)
 case atStart => exact ⟨_, 0, Nat.zero_le _, rfl, rfl, hHd (OwnF.nil _ _), HB0⟩
 case round =>
  clear HB0
  obtain ⟨v, j, hj, rfl, rfl, HO, HB⟩ := hrel
  obtain ⟨w7, hw7⟩ : ∃ w7, w7 = wr := ⟨_, rfl⟩
  subst hw7
  have i1 : (0 : Int) ≤ (j : Int) := by omega
  by_cases hlt : j < l.length
  ·have i2 : (j : Int) < (l.length : Int) := by omega
   obtain ⟨x, hx⟩ : ∃ x, l[j]? = some x := ⟨_, List.getElem?_eq_getElem hlt⟩
   have hokx := HF.out x (List.mem_of_getElem? hx)
   have hax := HA.out x (List.mem_of_getElem? hx)
   have htk := its_take18 (L := leastB) hx
   obtain ⟨g9, o9, Aw, cw, An, cn, Ao, co, rfl, -, -, hg9, hw9, hn9, ho9, hcl⟩ := HV.out.at hx
   obtain ⟨xk, xw, ⟨xp, xpf⟩, ⟨xo, xof⟩⟩ := x
   simp only at hw9 hn9 ho9 hcl
   simp only [okE18, Bool.and_eq_true, Bool.or_eq_true, decide_eq_true_eq] at hax
   obtain ⟨⟨⟨⟨⟨⟨hkd, -⟩, -⟩, -⟩, -⟩, hnp⟩, hno⟩ := hax
   have hb8 : Below w7.heap.size w7 (w7.alloc (.cells #[.int .i64 xk, .slice Aw xw.length cw, .string (txt xp.name), .string (txt xp.key), .int .i64 xp.kind, .int .u64 (xp.num : Int), .string (txt xp.text), .slice An xpf.len cn, .string (txt xo.name), .string (txt xo.key), .int .i64 xo.kind, .int .u64 (xo.num : Int), .string (txt xo.text), .slice Ao xof.len co] 55)) := bAl
   have HB8 : Hid (Below w7.heap.size w7 (w7.alloc (.cells #[.int .i64 xk, .slice Aw xw.length cw, .string (txt xp.name), .string (txt xp.key), .int .i64 xp.kind, .int .u64 (xp.num : Int), .string (txt xp.text), .slice An xpf.len cn, .string (txt xo.name), .string (txt xo.key), .int .i64 xo.kind, .int .u64 (xo.num : Int), .string (txt xo.text), .slice Ao xof.len co] 55))) := hHd hb8
   have HS8 : Hid ((w7.alloc (.cells #[.int .i64 xk, .slice Aw xw.length cw, .string (txt xp.name), .string (txt xp.key), .int .i64 xp.kind, .int .u64 (xp.num : Int), .string (txt xp.text), .slice An xpf.len cn, .string (txt xo.name), .string (txt xo.key), .int .i64 xo.kind, .int .u64 (xo.num : Int), .string (txt xo.text), .slice Ao xof.len co] 55)).heap.size = w7.heap.size + 1) := hHd (by simp)
   have HE8 : Hid (Blk (w7.alloc (.cells #[.int .i64 xk, .slice Aw xw.length cw, .string (txt xp.name), .string (txt xp.key), .int .i64 xp.kind, .int .u64 (xp.num : Int), .string (txt xp.text), .slice An xpf.len cn, .string (txt xo.name), .string (txt xo.key), .int .i64 xo.kind, .int .u64 (xo.num : Int), .string (txt xo.text), .slice Ao xof.len co] 55)) w7.heap.size 55 #[.int .i64 xk, .slice Aw xw.length cw, .string (txt xp.name), .string (txt xp.key), .int .i64 xp.kind, .int .u64 (xp.num : Int), .string (txt xp.text), .slice An xpf.len cn, .string (txt xo.name), .string (txt xo.key), .int .i64 xo.kind, .int .u64 (xo.num : Int), .string (txt xo.text), .slice Ao xof.len co]) := hHd (Blk.new _ _ _)
   have HSH : ∀ W, Below w.heap.size w W → Hid (Calls Tryz.prog 25 #[.slice Aw xw.length cw] W (ShowP xw W)) := fun W hW => hHd (rshow15_any xw _ W (WayV.below hw9 hW) hokx.way hokx.txts)
   have HIP : ∀ W, Below w.heap.size w W → Hid (Calls Tryz.prog 40 #[.int .u64 3, .agg (cN xp (.slice An xpf.len cn))] W (ItmP18 3 (inI18 leastB xp (itmF18 leastB xpf)) W)) := fun W hW => hHd (ritem18_any xpf 3 xp An cn W (by decide) ((show RowT w.heap.size w (.slice An xpf.len cn) xpf from hn9).under hW (Nat.le_refl _) hW.size) hokx.node hokx.nodeT.1 hokx.nodeT.2 hnp)
   have HIO : ∀ W, Below w.heap.size w W → Hid (Calls Tryz.prog 40 #[.int .u64 5, .agg (cN xo (.slice Ao xof.len co))] W (ItmP18 5 (inI18 leastB xo (itmF18 leastB xof)) W)) := fun W hW => hHd (ritem18_any xof 5 xo Ao co W (by decide) ((show RowT w.heap.size w (.slice Ao xof.len co) xof from ho9).under hW (Nat.le_refl _) hW.size) hokx.old hokx.oldT.1 hokx.oldT.2 hno)
   obtain ⟨S, hS9⟩ : ∃ S, S = showX xw := ⟨_, rfl⟩
   have HTK : Hid (itsE18 leastB (l.take (j + 1)) = (itsE18 leastB (l.take j)).app (.cons (2 * xk + 1).toNat [] (.cons 2 S .nil (if xk = 2 then (if xk = 1 then .nil else itm18 leastB 5 (xo, xof) .nil) else itm18 leastB 3 (xp, xpf) (if xk = 1 then .nil else itm18 leastB 5 (xo, xof) .nil))) .nil)) := hHd (by rw [htk, hS9]; rfl)
   obtain ⟨KP, hKP⟩ : ∃ K, K = inI18 leastB xp (itmF18 leastB xpf) := ⟨_, rfl⟩
   obtain ⟨KO, hKO⟩ : ∃ K, K = inI18 leastB xo (itmF18 leastB xof) := ⟨_, rfl⟩
   unfold itm18 at HTK
   simp only at HTK
   rw [← hKP, ← hKO] at HTK
   rw [← hKP] at HIP
   rw [← hKO] at HIO
   unfold ShowP at HSH
   rw [← hS9] at HSH
   obtain ⟨nP, hnP⟩ : ∃ n, n = KP.len := ⟨_, rfl⟩
   obtain ⟨nO, hnO⟩ : ∃ n, n = KO.len := ⟨_, rfl⟩
   obtain ⟨Fj, hFj⟩ : ∃ F, F = itsE18 leastB (l.take j) := ⟨_, rfl⟩
   have HLJ : Hid (Fj.len ≤ 1000000) := hHd (by have := HL.out; rw [hFj, its_len18, List.length_take]; omega)
   rw [← hFj] at HO HTK
   have HOL : Hid (∀ k, v.ownBlock = some k → k < w7.heap.size) := hHd (fun k e => (HO.out.lt k e).2)
   have HNP := hHd hnP
   have HNO := hHd hnO
   have HCL : ∀ i u, (edC xk (.slice Aw xw.length cw) xp (.slice An xpf.len cn) xo (.slice Ao xof.len co))[i]? = some u → w7.cell? ⟨g9, o9 + j * 14 + i, none⟩ = some u := fun i u hu => (HB.out.cell (p := ⟨g9, o9 + j * 14 + i, none⟩) hg9).trans (hcl i u hu)
   have p0 : w7.cell? ⟨g9, o9 + j * 14, none⟩ = _ := HCL 0 _ rfl
   have p1 := HCL 1 _ rfl
   have p2 := HCL 2 _ rfl
   have p3 := HCL 3 _ rfl
   have p4 := HCL 4 _ rfl
   have p5 := HCL 5 _ rfl
   have p6 := HCL 6 _ rfl
   have p7 := HCL 7 _ rfl
   have p8 := HCL 8 _ rfl
   have p9 := HCL 9 _ rfl
   have p10 := HCL 10 _ rfl
   have p11 := HCL 11 _ rfl
   have p12 := HCL 12 _ rfl
   have p13 := HCL 13 _ rfl
   clear hw9 hn9 ho9 hcl hx hg9 hb8 HCL hokx hKP hKO hS9 hFj htk hnp hno hnP hnO
   go_upto_region 6 with (fail)
   clear p0 p1 p2 p3 p4 p5 p6 p7 p8 p9 p10 p11 p12 p13
   revert HB8 HS8 HE8
   generalize (w7.alloc (.cells #[.int .i64 xk, .slice Aw xw.length cw, .string (txt xp.name), .string (txt xp.key), .int .i64 xp.kind, .int .u64 (xp.num : Int), .string (txt xp.text), .slice An xpf.len cn, .string (txt xo.name), .string (txt xo.key), .int .i64 xo.kind, .int .u64 (xo.num : Int), .string (txt xo.text), .slice Ao xof.len co] 55)) = w8
   intro HB8 HS8 HE8
   have q1 := (HE8.out.cell 1).trans rfl
   go_wp2_with fail
   refine (HSH _ (HB.out.trans (HB8.out.mono HB.out.size))).out.mono ?_
   rintro r w9 ⟨rfl, hb⟩
   have hb9 : Below w9.heap.size w9 (w9.alloc (.cells #[.int .u64 2, .string (txt S), .slice none 0 0] 79)) := bAl
   have HST : Hid (StE18 w7 #[.int .i64 xk, .slice Aw xw.length cw, .string (txt xp.name), .string (txt xp.key), .int .i64 xp.kind, .int .u64 (xp.num : Int), .string (txt xp.text), .slice An xpf.len cn, .string (txt xo.name), .string (txt xo.key), .int .i64 xo.kind, .int .u64 (xo.num : Int), .string (txt xo.text), .slice Ao xof.len co] (.slice (some ⟨w9.heap.size, 0, none⟩) 1 1) (.cons 2 S .nil .nil) (w9.alloc (.cells #[.int .u64 2, .string (txt S), .slice none 0 0] 79))) := hHd ⟨(HE8.out.below hb HE8.out.lt).below hb9 (HE8.out.below hb HE8.out.lt).lt, OwnF.lit18 (t := 2) (Blk.new _ _ _) (by have := HS8.out; have := hb.size; omega) (by decide), (HB8.out.trans (hb.mono HB8.out.size)).trans (hb9.mono (HB8.out.trans (hb.mono HB8.out.size)).size), by have := HS8.out; have := hb.size; have := hb9.size; omega⟩
   clear hb hb9 HE8 HS8 HB8 q1
   go_upto_region 7 with (fail)
   revert HST
   generalize (w9.alloc (.cells #[.int .u64 2, .string (txt S), .slice none 0 0] 79)) = wA
   intro HST
   obtain ⟨u, hu⟩ : ∃ u : Value, u = .slice (some ⟨w9.heap.size, 0, none⟩) 1 1 := ⟨_, rfl⟩
   rw [← hu] at HST
   rw [← hu]
   clear hu
   have HBW : ∀ {u F W}, StE18 w7 #[.int .i64 xk, .slice Aw xw.length cw, .string (txt xp.name), .string (txt xp.key), .int .i64 xp.kind, .int .u64 (xp.num : Int), .string (txt xp.text), .slice An xpf.len cn, .string (txt xo.name), .string (txt xo.key), .int .i64 xo.kind, .int .u64 (xo.num : Int), .string (txt xo.text), .slice Ao xof.len co] u F W → Below w.heap.size w W := fun h => HB.out.trans (h.2.2.1.mono HB.out.size)
   rcases hkd with (rfl | rfl) | rfl
   ·skip
    have q0 := (HST.out.1.cell 0).trans rfl
    have q2 := (HST.out.1.cell 2).trans rfl
    have q3 := (HST.out.1.cell 3).trans rfl
    have q4 := (HST.out.1.cell 4).trans rfl
    have q5 := (HST.out.1.cell 5).trans rfl
    have q6 := (HST.out.1.cell 6).trans rfl
    have q7 := (HST.out.1.cell 7).trans rfl
    go_wp2_with fail
    refine (HIP _ (HBW HST.out)).out.mono ?_
    rintro r wB1 ⟨A8, c8, rfl, hfv, hb8⟩
    have e9 := HNP.out
    rw [← e9]
    rw [← e9] at hfv
    clear e9
    have hb9 : Below wB1.heap.size wB1 (wB1.alloc (.cells #[.int .u64 3, .string ⟨#[]⟩, .slice A8 nP c8] 79)) := bAl
    have HSA1 : Hid (StE18 w7 #[.int .i64 1, .slice Aw xw.length cw, .string (txt xp.name), .string (txt xp.key), .int .i64 xp.kind, .int .u64 (xp.num : Int), .string (txt xp.text), .slice An xpf.len cn, .string (txt xo.name), .string (txt xo.key), .int .i64 xo.kind, .int .u64 (xo.num : Int), .string (txt xo.text), .slice Ao xof.len co] u (Fo.cons 2 S .nil .nil) (wB1.alloc (.cells #[.int .u64 3, .string ⟨#[]⟩, .slice A8 nP c8] 79))) := hHd ((HST.out.go hb8).go hb9)
    have HBL : Hid (Blk (wB1.alloc (.cells #[.int .u64 3, .string ⟨#[]⟩, .slice A8 nP c8] 79)) wB1.heap.size 79 #[.int .u64 ((3 : Nat) : Int), .string ⟨#[]⟩, .slice A8 nP c8]) := hHd (Blk.new _ _ _)
    have HFV : Hid (FV DataR (wB1.alloc (.cells #[.int .u64 3, .string ⟨#[]⟩, .slice A8 nP c8] 79)) (ItsI (w7.heap.size + 1) (wB1.alloc (.cells #[.int .u64 3, .string ⟨#[]⟩, .slice A8 nP c8] 79)) u) (.slice A8 nP c8) KP) := hHd (hfv.kept stays_R (fun g hg => Below.heap_alloc _ _ _ hg.2) (fun g hg => ⟨by have := hg.1; have := HST.out.2.2.2; omega, Nat.lt_of_lt_of_le hg.2 (by simp), fun e => by have := (HST.out.2.1.lt g e.symm).2; have := hg.1; omega⟩))
    clear hb8 hb9 hfv q0
    clear q2 q3 q4 q5 q6 q7
    go_wp2_with (at_builtin; refine wpList_append_it stays_R one_R Tryz.underlying47 Tryz.infoJ zeroI rfl (.tmp 25) (.tmp 29) rfl rfl (w7.heap.size + 1) u (Fo.cons 2 S .nil .nil) rfl HSA1.out.2.1 wB1.heap.size rfl 3 [] KP (.string ⟨#[]⟩) (.slice A8 nP c8) HBL.out (by decide) rfl HFV.out (by simp only [Fo.len, Fo.app]; omega) (by simp only [Fo.len, Fo.app]; omega) HSA1.out.2.2.2 ?_)
    intro u1 w21 hap
    have HST1 := hHd (HSA1.out.app hap)
    clear hap HBL HFV HSA1
    have HKF : Hid (itsE18 leastB (l.take (j + 1)) = Fj.app (.cons 3 [] (.cons 2 S .nil (.cons 3 [] KP .nil)) .nil)) := hHd HTK.out
    have HST9 : Hid (StE18 w7 #[.int .i64 1, .slice Aw xw.length cw, .string (txt xp.name), .string (txt xp.key), .int .i64 xp.kind, .int .u64 (xp.num : Int), .string (txt xp.text), .slice An xpf.len cn, .string (txt xo.name), .string (txt xo.key), .int .i64 xo.kind, .int .u64 (xo.num : Int), .string (txt xo.text), .slice Ao xof.len co] u1 (.cons 2 S .nil (.cons 3 [] KP .nil)) w21) := hHd HST1.out
    obtain ⟨A9, c9, rfl⟩ := HST9.out.2.1.shape
    obtain ⟨n, hn⟩ : ∃ n : Nat, n = ((.cons 2 S .nil (.cons 3 [] KP .nil)) : Fo).len := ⟨_, rfl⟩
    have HN := hHd hn
    rw [← hn] at HST9
    rw [← hn]
    have hb9 : Below w21.heap.size w21 (w21.alloc (.cells #[.int .u64 3, .string ⟨#[]⟩, .slice A9 n c9] 79)) := bAl
    have HOA : Hid (OwnF DataR 79 (w21.alloc (.cells #[.int .u64 3, .string ⟨#[]⟩, .slice A9 n c9] 79)) w.heap.size v Fj) := hHd ((HO.out.below stays_R HST9.out.2.2.1).below stays_R hb9)
    have HBL : Hid (Blk (w21.alloc (.cells #[.int .u64 3, .string ⟨#[]⟩, .slice A9 n c9] 79)) w21.heap.size 79 #[.int .u64 ((3 : Nat) : Int), .string ⟨#[]⟩, .slice A9 n c9]) := hHd (Blk.new _ _ _)
    have HFV : Hid (FV DataR (w21.alloc (.cells #[.int .u64 3, .string ⟨#[]⟩, .slice A9 n c9] 79)) (ItsI w.heap.size (w21.alloc (.cells #[.int .u64 3, .string ⟨#[]⟩, .slice A9 n c9] 79)) v) (.slice A9 n c9) (.cons 2 S .nil (.cons 3 [] KP .nil))) := hHd ((HST9.out.2.1.fv stays_R).kept stays_R (fun g hg => Below.heap_alloc _ _ _ hg.2) (fun g hg => ⟨by have := hg.1; have := HB.out.size; omega, Nat.lt_of_lt_of_le hg.2 (by simp), fun e => by have := HOL.out g e.symm; have := hg.1; omega⟩))
    have HBA : Hid (Below w.heap.size w (w21.alloc (.cells #[.int .u64 3, .string ⟨#[]⟩, .slice A9 n c9] 79))) := hHd ((HBW HST9.out).trans (hb9.mono (HBW HST9.out).size))
    have q0 := (HST9.out.1.cell 0).trans rfl
    clear hn hb9
    go_wp2_with (at_builtin; refine wpList_append_it stays_R one_R Tryz.underlying47 Tryz.infoJ zeroI rfl (.tmp 40) (.tmp 48) rfl rfl w.heap.size v Fj rfl HOA.out w21.heap.size rfl 3 [] (.cons 2 S .nil (.cons 3 [] KP .nil)) (.string ⟨#[]⟩) (.slice A9 n c9) HBL.out (by decide) rfl HFV.out (by have := HLJ.out; omega) (by have := HLJ.out; omega) HBA.out.size ?_)
    intro v9 w30 hap
    have H9 : Hid (OwnF DataR 79 w30 w.heap.size v9 (itsE18 leastB (l.take (j + 1)))) := hHd (by rw [HKF.out]; exact hap.1)
    have HB9 : Hid (Below w.heap.size w w30) := hHd (HBA.out.trans (hap.below HOA.out HBA.out.size))
    clear hap HBL HFV HOA HBA q0 HST1 HST9
    have n0 : (j : Int) < 1000000 := by have := HL.out; omega
    go_wp2_with fail
    go_roundw
    case rel => exact ⟨v9, j + 1, by omega, rfl, by go_num, H9, HB9⟩
    case measure => simp [intOf]; omega
   ·skip
    have q0 := (HST.out.1.cell 0).trans rfl
    have q8 := (HST.out.1.cell 8).trans rfl
    have q9 := (HST.out.1.cell 9).trans rfl
    have q10 := (HST.out.1.cell 10).trans rfl
    have q11 := (HST.out.1.cell 11).trans rfl
    have q12 := (HST.out.1.cell 12).trans rfl
    have q13 := (HST.out.1.cell 13).trans rfl
    go_wp2_with fail
    refine (HIO _ (HBW HST.out)).out.mono ?_
    rintro r wB1 ⟨A8, c8, rfl, hfv, hb8⟩
    have e9 := HNO.out
    rw [← e9]
    rw [← e9] at hfv
    clear e9
    have hb9 : Below wB1.heap.size wB1 (wB1.alloc (.cells #[.int .u64 5, .string ⟨#[]⟩, .slice A8 nO c8] 79)) := bAl
    have HSA1 : Hid (StE18 w7 #[.int .i64 2, .slice Aw xw.length cw, .string (txt xp.name), .string (txt xp.key), .int .i64 xp.kind, .int .u64 (xp.num : Int), .string (txt xp.text), .slice An xpf.len cn, .string (txt xo.name), .string (txt xo.key), .int .i64 xo.kind, .int .u64 (xo.num : Int), .string (txt xo.text), .slice Ao xof.len co] u (Fo.cons 2 S .nil .nil) (wB1.alloc (.cells #[.int .u64 5, .string ⟨#[]⟩, .slice A8 nO c8] 79))) := hHd ((HST.out.go hb8).go hb9)
    have HBL : Hid (Blk (wB1.alloc (.cells #[.int .u64 5, .string ⟨#[]⟩, .slice A8 nO c8] 79)) wB1.heap.size 79 #[.int .u64 ((5 : Nat) : Int), .string ⟨#[]⟩, .slice A8 nO c8]) := hHd (Blk.new _ _ _)
    have HFV : Hid (FV DataR (wB1.alloc (.cells #[.int .u64 5, .string ⟨#[]⟩, .slice A8 nO c8] 79)) (ItsI (w7.heap.size + 1) (wB1.alloc (.cells #[.int .u64 5, .string ⟨#[]⟩, .slice A8 nO c8] 79)) u) (.slice A8 nO c8) KO) := hHd (hfv.kept stays_R (fun g hg => Below.heap_alloc _ _ _ hg.2) (fun g hg => ⟨by have := hg.1; have := HST.out.2.2.2; omega, Nat.lt_of_lt_of_le hg.2 (by simp), fun e => by have := (HST.out.2.1.lt g e.symm).2; have := hg.1; omega⟩))
    clear hb8 hb9 hfv q0
    clear q8 q9 q10 q11 q12 q13
    go_wp2_with (at_builtin; refine wpList_append_it stays_R one_R Tryz.underlying47 Tryz.infoJ zeroI rfl (.tmp 34) (.tmp 38) rfl rfl (w7.heap.size + 1) u (Fo.cons 2 S .nil .nil) rfl HSA1.out.2.1 wB1.heap.size rfl 5 [] KO (.string ⟨#[]⟩) (.slice A8 nO c8) HBL.out (by decide) rfl HFV.out (by simp only [Fo.len, Fo.app]; omega) (by simp only [Fo.len, Fo.app]; omega) HSA1.out.2.2.2 ?_)
    intro u1 w21 hap
    have HST1 := hHd (HSA1.out.app hap)
    clear hap HBL HFV HSA1
    have HKF : Hid (itsE18 leastB (l.take (j + 1)) = Fj.app (.cons 5 [] (.cons 2 S .nil (.cons 5 [] KO .nil)) .nil)) := hHd HTK.out
    have HST9 : Hid (StE18 w7 #[.int .i64 2, .slice Aw xw.length cw, .string (txt xp.name), .string (txt xp.key), .int .i64 xp.kind, .int .u64 (xp.num : Int), .string (txt xp.text), .slice An xpf.len cn, .string (txt xo.name), .string (txt xo.key), .int .i64 xo.kind, .int .u64 (xo.num : Int), .string (txt xo.text), .slice Ao xof.len co] u1 (.cons 2 S .nil (.cons 5 [] KO .nil)) w21) := hHd HST1.out
    obtain ⟨A9, c9, rfl⟩ := HST9.out.2.1.shape
    obtain ⟨n, hn⟩ : ∃ n : Nat, n = ((.cons 2 S .nil (.cons 5 [] KO .nil)) : Fo).len := ⟨_, rfl⟩
    have HN := hHd hn
    rw [← hn] at HST9
    rw [← hn]
    have hb9 : Below w21.heap.size w21 (w21.alloc (.cells #[.int .u64 5, .string ⟨#[]⟩, .slice A9 n c9] 79)) := bAl
    have HOA : Hid (OwnF DataR 79 (w21.alloc (.cells #[.int .u64 5, .string ⟨#[]⟩, .slice A9 n c9] 79)) w.heap.size v Fj) := hHd ((HO.out.below stays_R HST9.out.2.2.1).below stays_R hb9)
    have HBL : Hid (Blk (w21.alloc (.cells #[.int .u64 5, .string ⟨#[]⟩, .slice A9 n c9] 79)) w21.heap.size 79 #[.int .u64 ((5 : Nat) : Int), .string ⟨#[]⟩, .slice A9 n c9]) := hHd (Blk.new _ _ _)
    have HFV : Hid (FV DataR (w21.alloc (.cells #[.int .u64 5, .string ⟨#[]⟩, .slice A9 n c9] 79)) (ItsI w.heap.size (w21.alloc (.cells #[.int .u64 5, .string ⟨#[]⟩, .slice A9 n c9] 79)) v) (.slice A9 n c9) (.cons 2 S .nil (.cons 5 [] KO .nil))) := hHd ((HST9.out.2.1.fv stays_R).kept stays_R (fun g hg => Below.heap_alloc _ _ _ hg.2) (fun g hg => ⟨by have := hg.1; have := HB.out.size; omega, Nat.lt_of_lt_of_le hg.2 (by simp), fun e => by have := HOL.out g e.symm; have := hg.1; omega⟩))
    have HBA : Hid (Below w.heap.size w (w21.alloc (.cells #[.int .u64 5, .string ⟨#[]⟩, .slice A9 n c9] 79))) := hHd ((HBW HST9.out).trans (hb9.mono (HBW HST9.out).size))
    have q0 := (HST9.out.1.cell 0).trans rfl
    clear hn hb9
    go_wp2_with (at_builtin; refine wpList_append_it stays_R one_R Tryz.underlying47 Tryz.infoJ zeroI rfl (.tmp 40) (.tmp 48) rfl rfl w.heap.size v Fj rfl HOA.out w21.heap.size rfl 5 [] (.cons 2 S .nil (.cons 5 [] KO .nil)) (.string ⟨#[]⟩) (.slice A9 n c9) HBL.out (by decide) rfl HFV.out (by have := HLJ.out; omega) (by have := HLJ.out; omega) HBA.out.size ?_)
    intro v9 w30 hap
    have H9 : Hid (OwnF DataR 79 w30 w.heap.size v9 (itsE18 leastB (l.take (j + 1)))) := hHd (by rw [HKF.out]; exact hap.1)
    have HB9 : Hid (Below w.heap.size w w30) := hHd (HBA.out.trans (hap.below HOA.out HBA.out.size))
    clear hap HBL HFV HOA HBA q0 HST1 HST9
    have n0 : (j : Int) < 1000000 := by have := HL.out; omega
    go_wp2_with fail
    go_roundw
    case rel => exact ⟨v9, j + 1, by omega, rfl, by go_num, H9, HB9⟩
    case measure => simp [intOf]; omega
   ·skip
    have q0 := (HST.out.1.cell 0).trans rfl
    have q2 := (HST.out.1.cell 2).trans rfl
    have q3 := (HST.out.1.cell 3).trans rfl
    have q4 := (HST.out.1.cell 4).trans rfl
    have q5 := (HST.out.1.cell 5).trans rfl
    have q6 := (HST.out.1.cell 6).trans rfl
    have q7 := (HST.out.1.cell 7).trans rfl
    go_wp2_with fail
    refine (HIP _ (HBW HST.out)).out.mono ?_
    rintro r wB1 ⟨A8, c8, rfl, hfv, hb8⟩
    have e9 := HNP.out
    rw [← e9]
    rw [← e9] at hfv
    clear e9
    have hb9 : Below wB1.heap.size wB1 (wB1.alloc (.cells #[.int .u64 3, .string ⟨#[]⟩, .slice A8 nP c8] 79)) := bAl
    have HSA1 : Hid (StE18 w7 #[.int .i64 3, .slice Aw xw.length cw, .string (txt xp.name), .string (txt xp.key), .int .i64 xp.kind, .int .u64 (xp.num : Int), .string (txt xp.text), .slice An xpf.len cn, .string (txt xo.name), .string (txt xo.key), .int .i64 xo.kind, .int .u64 (xo.num : Int), .string (txt xo.text), .slice Ao xof.len co] u (Fo.cons 2 S .nil .nil) (wB1.alloc (.cells #[.int .u64 3, .string ⟨#[]⟩, .slice A8 nP c8] 79))) := hHd ((HST.out.go hb8).go hb9)
    have HBL : Hid (Blk (wB1.alloc (.cells #[.int .u64 3, .string ⟨#[]⟩, .slice A8 nP c8] 79)) wB1.heap.size 79 #[.int .u64 ((3 : Nat) : Int), .string ⟨#[]⟩, .slice A8 nP c8]) := hHd (Blk.new _ _ _)
    have HFV : Hid (FV DataR (wB1.alloc (.cells #[.int .u64 3, .string ⟨#[]⟩, .slice A8 nP c8] 79)) (ItsI (w7.heap.size + 1) (wB1.alloc (.cells #[.int .u64 3, .string ⟨#[]⟩, .slice A8 nP c8] 79)) u) (.slice A8 nP c8) KP) := hHd (hfv.kept stays_R (fun g hg => Below.heap_alloc _ _ _ hg.2) (fun g hg => ⟨by have := hg.1; have := HST.out.2.2.2; omega, Nat.lt_of_lt_of_le hg.2 (by simp), fun e => by have := (HST.out.2.1.lt g e.symm).2; have := hg.1; omega⟩))
    clear hb8 hb9 hfv q0
    clear q2 q3 q4 q5 q6 q7
    go_wp2_with (at_builtin; refine wpList_append_it stays_R one_R Tryz.underlying47 Tryz.infoJ zeroI rfl (.tmp 25) (.tmp 29) rfl rfl (w7.heap.size + 1) u (Fo.cons 2 S .nil .nil) rfl HSA1.out.2.1 wB1.heap.size rfl 3 [] KP (.string ⟨#[]⟩) (.slice A8 nP c8) HBL.out (by decide) rfl HFV.out (by simp only [Fo.len, Fo.app]; omega) (by simp only [Fo.len, Fo.app]; omega) HSA1.out.2.2.2 ?_)
    intro u1 w21 hap
    have HST1 := hHd (HSA1.out.app hap)
    clear hap HBL HFV HSA1
    have q0 := (HST1.out.1.cell 0).trans rfl
    have q8 := (HST1.out.1.cell 8).trans rfl
    have q9 := (HST1.out.1.cell 9).trans rfl
    have q10 := (HST1.out.1.cell 10).trans rfl
    have q11 := (HST1.out.1.cell 11).trans rfl
    have q12 := (HST1.out.1.cell 12).trans rfl
    have q13 := (HST1.out.1.cell 13).trans rfl
    go_wp2_with fail
    refine (HIO _ (HBW HST1.out)).out.mono ?_
    rintro r wB2 ⟨A8, c8, rfl, hfv, hb8⟩
    have e9 := HNO.out
    rw [← e9]
    rw [← e9] at hfv
    clear e9
    have hb9 : Below wB2.heap.size wB2 (wB2.alloc (.cells #[.int .u64 5, .string ⟨#[]⟩, .slice A8 nO c8] 79)) := bAl
    have HSA2 : Hid (StE18 w7 #[.int .i64 3, .slice Aw xw.length cw, .string (txt xp.name), .string (txt xp.key), .int .i64 xp.kind, .int .u64 (xp.num : Int), .string (txt xp.text), .slice An xpf.len cn, .string (txt xo.name), .string (txt xo.key), .int .i64 xo.kind, .int .u64 (xo.num : Int), .string (txt xo.text), .slice Ao xof.len co] u1 ((Fo.cons 2 S .nil .nil).app (.cons 3 [] KP .nil)) (wB2.alloc (.cells #[.int .u64 5, .string ⟨#[]⟩, .slice A8 nO c8] 79))) := hHd ((HST1.out.go hb8).go hb9)
    have HBL : Hid (Blk (wB2.alloc (.cells #[.int .u64 5, .string ⟨#[]⟩, .slice A8 nO c8] 79)) wB2.heap.size 79 #[.int .u64 ((5 : Nat) : Int), .string ⟨#[]⟩, .slice A8 nO c8]) := hHd (Blk.new _ _ _)
    have HFV : Hid (FV DataR (wB2.alloc (.cells #[.int .u64 5, .string ⟨#[]⟩, .slice A8 nO c8] 79)) (ItsI (w7.heap.size + 1) (wB2.alloc (.cells #[.int .u64 5, .string ⟨#[]⟩, .slice A8 nO c8] 79)) u1) (.slice A8 nO c8) KO) := hHd (hfv.kept stays_R (fun g hg => Below.heap_alloc _ _ _ hg.2) (fun g hg => ⟨by have := hg.1; have := HST1.out.2.2.2; omega, Nat.lt_of_lt_of_le hg.2 (by simp), fun e => by have := (HST1.out.2.1.lt g e.symm).2; have := hg.1; omega⟩))
    clear hb8 hb9 hfv q0
    clear q8 q9 q10 q11 q12 q13
    go_wp2_with (at_builtin; refine wpList_append_it stays_R one_R Tryz.underlying47 Tryz.infoJ zeroI rfl (.tmp 34) (.tmp 38) rfl rfl (w7.heap.size + 1) u1 ((Fo.cons 2 S .nil .nil).app (.cons 3 [] KP .nil)) rfl HSA2.out.2.1 wB2.heap.size rfl 5 [] KO (.string ⟨#[]⟩) (.slice A8 nO c8) HBL.out (by decide) rfl HFV.out (by simp only [Fo.len, Fo.app]; omega) (by simp only [Fo.len, Fo.app]; omega) HSA2.out.2.2.2 ?_)
    intro u2 w22 hap
    have HST2 := hHd (HSA2.out.app hap)
    clear hap HBL HFV HSA2
    have HKF : Hid (itsE18 leastB (l.take (j + 1)) = Fj.app (.cons 7 [] (.cons 2 S .nil (.cons 3 [] KP (.cons 5 [] KO .nil))) .nil)) := hHd HTK.out
    have HST9 : Hid (StE18 w7 #[.int .i64 3, .slice Aw xw.length cw, .string (txt xp.name), .string (txt xp.key), .int .i64 xp.kind, .int .u64 (xp.num : Int), .string (txt xp.text), .slice An xpf.len cn, .string (txt xo.name), .string (txt xo.key), .int .i64 xo.kind, .int .u64 (xo.num : Int), .string (txt xo.text), .slice Ao xof.len co] u2 (.cons 2 S .nil (.cons 3 [] KP (.cons 5 [] KO .nil))) w22) := hHd HST2.out
    obtain ⟨A9, c9, rfl⟩ := HST9.out.2.1.shape
    obtain ⟨n, hn⟩ : ∃ n : Nat, n = ((.cons 2 S .nil (.cons 3 [] KP (.cons 5 [] KO .nil))) : Fo).len := ⟨_, rfl⟩
    have HN := hHd hn
    rw [← hn] at HST9
    rw [← hn]
    have hb9 : Below w22.heap.size w22 (w22.alloc (.cells #[.int .u64 7, .string ⟨#[]⟩, .slice A9 n c9] 79)) := bAl
    have HOA : Hid (OwnF DataR 79 (w22.alloc (.cells #[.int .u64 7, .string ⟨#[]⟩, .slice A9 n c9] 79)) w.heap.size v Fj) := hHd ((HO.out.below stays_R HST9.out.2.2.1).below stays_R hb9)
    have HBL : Hid (Blk (w22.alloc (.cells #[.int .u64 7, .string ⟨#[]⟩, .slice A9 n c9] 79)) w22.heap.size 79 #[.int .u64 ((7 : Nat) : Int), .string ⟨#[]⟩, .slice A9 n c9]) := hHd (Blk.new _ _ _)
    have HFV : Hid (FV DataR (w22.alloc (.cells #[.int .u64 7, .string ⟨#[]⟩, .slice A9 n c9] 79)) (ItsI w.heap.size (w22.alloc (.cells #[.int .u64 7, .string ⟨#[]⟩, .slice A9 n c9] 79)) v) (.slice A9 n c9) (.cons 2 S .nil (.cons 3 [] KP (.cons 5 [] KO .nil)))) := hHd ((HST9.out.2.1.fv stays_R).kept stays_R (fun g hg => Below.heap_alloc _ _ _ hg.2) (fun g hg => ⟨by have := hg.1; have := HB.out.size; omega, Nat.lt_of_lt_of_le hg.2 (by simp), fun e => by have := HOL.out g e.symm; have := hg.1; omega⟩))
    have HBA : Hid (Below w.heap.size w (w22.alloc (.cells #[.int .u64 7, .string ⟨#[]⟩, .slice A9 n c9] 79))) := hHd ((HBW HST9.out).trans (hb9.mono (HBW HST9.out).size))
    have q0 := (HST9.out.1.cell 0).trans rfl
    clear hn hb9
    go_wp2_with (at_builtin; refine wpList_append_it stays_R one_R Tryz.underlying47 Tryz.infoJ zeroI rfl (.tmp 40) (.tmp 48) rfl rfl w.heap.size v Fj rfl HOA.out w22.heap.size rfl 7 [] (.cons 2 S .nil (.cons 3 [] KP (.cons 5 [] KO .nil))) (.string ⟨#[]⟩) (.slice A9 n c9) HBL.out (by decide) rfl HFV.out (by have := HLJ.out; omega) (by have := HLJ.out; omega) HBA.out.size ?_)
    intro v9 w30 hap
    have H9 : Hid (OwnF DataR 79 w30 w.heap.size v9 (itsE18 leastB (l.take (j + 1)))) := hHd (by rw [HKF.out]; exact hap.1)
    have HB9 : Hid (Below w.heap.size w w30) := hHd (HBA.out.trans (hap.below HOA.out HBA.out.size))
    clear hap HBL HFV HOA HBA q0 HST2 HST9
    have n0 : (j : Int) < 1000000 := by have := HL.out; omega
    go_wp2_with fail
    go_roundw
    case rel => exact ⟨v9, j + 1, by omega, rfl, by go_num, H9, HB9⟩
    case measure => simp [intOf]; omega
  ·obtain rfl : j = l.length := by omega
   have i2 : ¬ (l.length : Int) < (l.length : Int) := by omega
   have H9 : Hid (OwnF DataR 79 w7 w.heap.size v (itsE18 leastB l)) := hHd (by have h := HO.out; rwa [List.take_length] at h)
   clear hlt HO
   go_wp2
   go_ret
   exact ⟨_, rfl, H9.out, HB.out⟩
end
end Go.Proofs.YtleidkpdpabkpaaGreatDoor
