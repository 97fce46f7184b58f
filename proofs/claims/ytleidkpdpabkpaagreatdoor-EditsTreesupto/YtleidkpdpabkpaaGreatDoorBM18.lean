/- TlvFnA EdtSpec Law18A EdtWel PakOne PakInj EdtMay EdtBig EdtOkl VadRefA -/
import Derived.Test.YtleidkpdpabkpaaGreatDoorBM16
import Derived.Test.YtleidkpdpabkpaaGreatDoorBM17
set_option linter.unusedSimpArgs false
set_option linter.unusedVariables false
set_option maxRecDepth 100000
set_option maxHeartbeats 8000000
namespace Go.Proofs.YtleidkpdpabkpaaGreatDoor
open Go.RowKit
def BoolB (b : Bool) (w : World) (r : Ending) (w' : World) : Prop := r = .returned (.bool b) ∧ Below w.heap.size w w'
theorem nests_yes (t : Nat) (dv kv : Value) (w : World) (h : t % 2 = 1) : Calls Tryz.prog 48 #[.agg #[.int .u64 (t : Int), dv, kv]] w (BoolB true w) := by
 have hb : ((t : Int) % 2 == 1) = true := by
  have h : (t : Int) % 2 = 1 := by omega
  rw [h]; rfl
 clear h
 go_enter Tryz.func48, Tryz.ntmps48
 go_wp2
 go_ret
 exact ⟨rfl, bAl⟩
theorem nests_no (t : Nat) (dv kv : Value) (w : World) (h : ¬ t % 2 = 1) : Calls Tryz.prog 48 #[.agg #[.int .u64 (t : Int), dv, kv]] w (BoolB false w) := by
 have hb : ((t : Int) % 2 == 1) = false := by
  have h : (t : Int) % 2 = 0 := by omega
  rw [h]; rfl
 clear h
 go_enter Tryz.func48, Tryz.ntmps48
 go_wp2
 go_ret
 exact ⟨rfl, bAl⟩
def pureB (t n m : Nat) : Bool := if t % 2 = 1 then ((n : Int) == 0) else ((m : Int) == 0)
theorem pure_any (t n m : Nat) (A A' : Option Addr) (c c' : Nat) (w : World) :
  Calls Tryz.prog 79 #[.agg #[.int .u64 (t : Int), .slice A n c, .slice A' m c']] w (BoolB (pureB t n m) w) := by
 unfold pureB
 by_cases h : t % 2 = 1
 ·rw [if_pos h]
  have HC := hHd (fun w => nests_yes t (.slice A n c) (.slice A' m c') w h)
  clear h
  go_enter Tryz.func79, Tryz.ntmps79
  go_wp2_with fail
  refine (HC.out _).mono ?_
  rintro r w1 ⟨rfl, hb1⟩
  obtain ⟨hc, hf⟩ := (⟨fun b o h => hb1.cell (p := ⟨b, o, none⟩) h, fun b o h => hb1.frozen (p := ⟨b, o, none⟩) h⟩ : (∀ b o, b < (w.alloc (.cells #[.int .u64 (t : Int), .slice A n c, .slice A' m c'] 58)).heap.size → w1.cell? ⟨b, o, none⟩ = (w.alloc (.cells #[.int .u64 (t : Int), .slice A n c, .slice A' m c'] 58)).cell? ⟨b, o, none⟩) ∧ (∀ b o, b < (w.alloc (.cells #[.int .u64 (t : Int), .slice A n c, .slice A' m c'] 58)).heap.size → w1.frozen? ⟨b, o, none⟩ = (w.alloc (.cells #[.int .u64 (t : Int), .slice A n c, .slice A' m c'] 58)).frozen? ⟨b, o, none⟩))
  go_wp2
  go_ret
  exact ⟨rfl, bAl.trans (hb1.mono (by simp))⟩
 ·rw [if_neg h]
  have HC := hHd (fun w => nests_no t (.slice A n c) (.slice A' m c') w h)
  clear h
  go_enter Tryz.func79, Tryz.ntmps79
  go_wp2_with fail
  refine (HC.out _).mono ?_
  rintro r w1 ⟨rfl, hb1⟩
  obtain ⟨hc, hf⟩ := (⟨fun b o h => hb1.cell (p := ⟨b, o, none⟩) h, fun b o h => hb1.frozen (p := ⟨b, o, none⟩) h⟩ : (∀ b o, b < (w.alloc (.cells #[.int .u64 (t : Int), .slice A n c, .slice A' m c'] 58)).heap.size → w1.cell? ⟨b, o, none⟩ = (w.alloc (.cells #[.int .u64 (t : Int), .slice A n c, .slice A' m c'] 58)).cell? ⟨b, o, none⟩) ∧ (∀ b o, b < (w.alloc (.cells #[.int .u64 (t : Int), .slice A n c, .slice A' m c'] 58)).heap.size → w1.frozen? ⟨b, o, none⟩ = (w.alloc (.cells #[.int .u64 (t : Int), .slice A n c, .slice A' m c'] 58)).frozen? ⟨b, o, none⟩))
  go_wp2
  go_ret
  exact ⟨rfl, bAl.trans (hb1.mono (by simp))⟩
theorem pureB_eq (t : Nat) (d : List UInt8) (k : Fo) : pureB t d.length k.len = (if t % 2 = 1 then d.isEmpty else k.len == 0) := by
 unfold pureB
 by_cases h : t % 2 = 1
 ·rw [if_pos h, if_pos h]
  cases d with
  | nil => rfl
  | cons b l => simp; omega
 ·rw [if_neg h, if_neg h]
  rw [Bool.eq_iff_iff]; simp
def Fo.cnt : Fo → Nat
 | .nil => 0
 | .cons _ _ k r => 1 + k.cnt + r.cnt
theorem Fo.cnt_app (f g : Fo) : (f.app g).cnt = f.cnt + g.cnt := by
 induction f with
 | nil => simp [Fo.app, Fo.cnt]
 | cons t d k r _ ih => simp only [Fo.app, Fo.cnt, ih]; omega
theorem Fo.len_le_cnt (f : Fo) : f.len ≤ f.cnt := by
 induction f with
 | nil => simp [Fo.len]
 | cons t d k r _ ih => simp only [Fo.len, Fo.cnt]; omega
theorem Fo.cnt_all (f : Fo) : ∀ deep, Fo.right deep f = true → 2 * f.cnt ≤ f.all.length := by
 induction f with
 | nil => intro _ _; simp [Fo.cnt]
 | cons t d k r ihk ihr =>
  intro deep h
  simp only [Fo.right, Bool.and_eq_true, decide_eq_true_eq] at h
  obtain ⟨⟨⟨-, hs⟩, hk⟩, hr⟩ := h
  have h1 := ihk _ hk
  have h2 := ihr _ hr
  have e1 := (encV_length 9 t).1
  have e2 := (encV_length 9 (Fo.inn t d k.all).length).1
  simp only [Fo.cnt, Fo.all, List.length_append]
  by_cases ho : t % 2 = 1
  ·have hin : Fo.inn t d k.all = k.all := by unfold Fo.inn; rw [if_pos ho]
   rw [hin] at e2 ⊢
   omega
  ·rw [if_neg ho] at hs
   have h0 : k.cnt = 0 := by
    have := Fo.len_zero (by simpa using hs)
    subst this
    rfl
   omega
theorem Fo.cnt_take_le (j : Nat) (f : Fo) : (Fo.take j f).cnt + (Fo.drop j f).cnt = f.cnt := by
 have h := Fo.cnt_app (Fo.take j f) (Fo.drop j f)
 rw [Fo.take_app_drop] at h
 omega
section
attribute [local go_sem] Oper.semAt_some
def OkL18 (l : List EdD) : Prop := l.length ≤ 1000000 ∧ (∀ e ∈ l, OkE18 e) ∧ (itsE18 leastB l).sz ≤ 1099511627776 ∧ (itsE18 leastB l).cnt ≤ 400000
structure EdtC (W0 : World) : Prop where
 check : ∀ (l : List EdD) (v : Value) (w : World), EdsV (Bel w) w v l → OkL18 l → Below W0.heap.size W0 w →
  Calls Tryz.prog 11 #[v] w (Ans9 (.bool (l.all okE18)) w)
 put : ∀ (l : List EdD) (v : Value) (w : World), EdsV (Bel w) w v l → OkL18 l → Below W0.heap.size W0 w →
  Calls Tryz.prog 9 #[v] w fun r w' => ∃ d A c, r = .returned (.tuple #[.slice A (putX18 leastB l).1.length c, .int .i64 ((putX18 leastB l).2 : Int)]) ∧ Rd w' d (.slice A (putX18 leastB l).1.length c) (putX18 leastB l).1 ∧ d < w'.heap.size ∧ Below w.heap.size w w'
 get : ∀ (s : List UInt8) (b : Value) (d : Nat) (w : World), Rd w d b s → s.length ≤ 9000 → Below W0.heap.size W0 w →
  Calls Tryz.prog 13 #[b] w (GetP18 s w)
def Awake18 (W0 : World) : Prop := ∀ w, Below W0.heap.size W0 w → Calls Tryz.prog 7 #[] w (Ans9 (.bool true) w)
theorem num_ok18 : ∀ f : NdF, OkF f → numF18 f := by
 intro f
 induction f with
 | nil => intro _; trivial
 | cons a k r ihk ihr => intro h; exact ⟨h.1.num, ihk h.2.1, ihr h.2.2⟩
theorem OkL18.num {l : List EdD} (h : OkL18 l) : ∀ e ∈ l, numN18 e.node ∧ numN18 e.old := fun e he =>
 ⟨⟨(h.2.1 e he).nodeT.1.num, num_ok18 _ (h.2.1 e he).nodeT.2⟩, ⟨(h.2.1 e he).oldT.1.num, num_ok18 _ (h.2.1 e he).oldT.2⟩⟩
theorem OkL18.few {l : List EdD} (h : OkL18 l) : FewE l := ⟨h.1, fun e he => ⟨(h.2.1 e he).way, (h.2.1 e he).node, (h.2.1 e he).old⟩⟩
theorem put_len18 (l : List EdD) : (putX18 leastB l).1.length ≤ 8192 := by
 unfold putX18
 split
 ·split
  ·rename_i h; exact h.2
  ·simp
 ·simp
end
section
attribute [local go_sem] Oper.semAt_some
theorem same_dec18 (l : List EdD) : decide (l = l) = true := decide_eq_true rfl
end
def wel18 : NdF → Nat → Prop
 | .nil, _ => True
 | .cons a k r, n => 0 < n ∧ okS (stp a) = true ∧ okN18 (a, k) = true ∧ wel18 k (n - 1) ∧ wel18 r n
theorem show_ok {w : List Stp} (h : w.all okS = true) (hne : w ≠ []) (hl : w.length ≤ 6) : showX w ≠ [] := by
 unfold showX
 rw [if_pos h, if_neg hne, if_neg (by omega)]
 exact fun e => hne (catT_nil e)
theorem okN_noN : okN18 noN = true := by decide
theorem ok_del {w : List Stp} {x : Nd} (hs : showX w ≠ []) (hne : w ≠ []) (hx : okN18 x = true) : okE18 (delE w x) = true := by
 simp [okE18, hne, hs, hx, okN_noN]
theorem ok_new {w : List Stp} {x : Nd} (hs : showX w ≠ []) (hne : w ≠ []) (hx : okN18 x = true) : okE18 (newE w x) = true := by
 simp [okE18, hne, hs, hx, okN_noN]
theorem ok_rep {w : List Stp} {x y : Nd} (hs : showX w ≠ []) (hne : w ≠ []) (hx : okN18 x = true) (hy : okN18 y = true) : okE18 ⟨3, w, x, y⟩ = true := by
 simp [okE18, hne, hs, hx, hy]
theorem way_ok {w : List Stp} {s : Stp} {n : Nat} (hw : w.all okS = true) (hs : okS s = true) (hn : 0 < n) (hl : w.length + n ≤ 6) : (w ++ [s]).all okS = true ∧ w ++ [s] ≠ [] ∧ showX (w ++ [s]) ≠ [] := by
 have h1 : (w ++ [s]).all okS = true := by rw [List.all_append, hw]; simp [hs]
 have h2 : w ++ [s] ≠ [] := by simp
 exact ⟨h1, h2, show_ok h1 h2 (by simp; omega)⟩
theorem wel_ed (f g : NdF) (w : List Stp) : ∀ n, wel18 f n → wel18 g n → w.all okS = true → w.length + n ≤ 6 → ∀ e ∈ edF f g w, okE18 e = true := by
 refine ed_ind (P := fun f g w => ∀ n, wel18 f n → wel18 g n → w.all okS = true → w.length + n ≤ 6 → ∀ e ∈ edF f g w, okE18 e = true)
  (fun w n _ _ _ _ e he => ?_) (fun a k r w ih n hf hg hw hl e he => ?_) (fun b q s w ih n hf hg hw hl e he => ?_) (fun a k r b q s w h ih n hf hg hw hl e he => ?_) (fun a k r b q s w h1 h2 ih n hf hg hw hl e he => ?_) (fun a k r b q s w h1 h2 hs ihk ih n hf hg hw hl e he => ?_) f g w
 ·rw [edF_nil] at he; cases he
 ·rw [edF_del] at he
  obtain ⟨h0, ha, hk, hkk, hr⟩ := hf
  obtain ⟨-, w2, w3⟩ := way_ok hw ha h0 hl
  rcases List.mem_cons.1 he with rfl | he
  ·exact ok_del w3 w2 hk
  ·exact ih n hr hg hw hl e he
 ·rw [edF_new] at he
  obtain ⟨h0, ha, hk, hkk, hr⟩ := hg
  obtain ⟨-, w2, w3⟩ := way_ok hw ha h0 hl
  rcases List.mem_cons.1 he with rfl | he
  ·exact ok_new w3 w2 hk
  ·exact ih n hf hr hw hl e he
 ·rw [edF_lt h] at he
  obtain ⟨h0, ha, hk, hkk, hr⟩ := hf
  obtain ⟨-, w2, w3⟩ := way_ok hw ha h0 hl
  rcases List.mem_cons.1 he with rfl | he
  ·exact ok_del w3 w2 hk
  ·exact ih n hr hg hw hl e he
 ·rw [edF_gt h1 h2] at he
  obtain ⟨h0, ha, hk, hkk, hr⟩ := hg
  obtain ⟨-, w2, w3⟩ := way_ok hw ha h0 hl
  rcases List.mem_cons.1 he with rfl | he
  ·exact ok_new w3 w2 hk
  ·exact ih n hf hr hw hl e he
 ·rw [edF_eq h1 h2] at he
  obtain ⟨h0, ha, hk, hkk, hr⟩ := hf
  obtain ⟨-, hb, hq, hqq, hss⟩ := hg
  obtain ⟨w1, w2, w3⟩ := way_ok hw ha h0 hl
  rcases List.mem_append.1 he with he | he
  ·unfold edK at he
   split at he
   ·cases he
   ·split at he
    ·rcases List.mem_cons.1 he with rfl | he
     ·exact ok_rep w3 w2 hq hk
     ·cases he
    ·split at he
     ·exact ihk (n - 1) hkk hqq w1 (by simp; omega) e he
     ·rcases List.mem_cons.1 he with rfl | he
      ·exact ok_del w3 w2 hk
      ·rcases List.mem_cons.1 he with rfl | he
       ·exact ok_new w3 w2 hq
       ·cases he
  ·exact ih n hr hss hw hl e he
def allF (s : SpF) : NdF → Prop
 | .nil => True
 | .cons a _ r => (findX a.name s).isSome = true ∧ allF s r
theorem scan_all : ∀ {f : NdF} {s : SpF} {c : List Nat}, scanF f s c = none → allF s f := by
 intro f
 induction f with
 | nil => intro s c _; trivial
 | cons a k r _ ih =>
  intro s c h
  cases hf : findX a.name s with
  | none => rw [scan_name hf] at h; cases h
  | some i =>
   obtain ⟨y, hy, _, _⟩ := sp_get hf
   rw [scan_cons hf hy] at h
   cases hk : kidX1 y a k (c.getD i 0) with
   | some e => rw [hk] at h; cases h
   | none => rw [hk] at h; exact ⟨by rw [hf]; rfl, ih h⟩
theorem all_get {s : SpF} : ∀ {f : NdF} {i : Nat} {a : NdD} {k : NdF}, allF s f → f.get? i = some (a, k) → ∃ j y, findX a.name s = some j ∧ s.get? j = some y := by
 intro f
 induction f with
 | nil => intro i a k _ h; cases h
 | cons b q r _ ih =>
  intro i a k ⟨h1, h2⟩ h
  cases i with
  | zero =>
   injection h with h
   injection h with e1 e2
   subst e1 e2
   obtain ⟨j, hj⟩ := Option.isSome_iff_exists.1 h1
   obtain ⟨y, hy, _, _⟩ := sp_get hj
   exact ⟨j, y, hj, hy⟩
  | succ i => exact ih h2 h
def memF (x : Nd) (f : NdF) : Prop := ∃ i, f.get? i = some x
theorem mem_cons {x : Nd} {a : NdD} {k r : NdF} : memF x (.cons a k r) ↔ x = (a, k) ∨ memF x r := by
 constructor
 ·rintro ⟨i, hi⟩
  cases i with
  | zero => injection hi with hi; exact .inl hi.symm
  | succ i => exact .inr ⟨i, hi⟩
 ·rintro (rfl | ⟨i, hi⟩)
  ·exact ⟨0, rfl⟩
  ·exact ⟨i + 1, hi⟩
theorem pl_get {s : SpF} : ∀ {j : Nat} {y : Sp}, plB s = true → s.get? j = some y → (y.1.kind = 1 ∨ (y.1.kind = 3 ∧ plB y.2 = true)) := by
 induction s with
 | nil => intro j y _ h; cases h
 | cons d k r _ ih =>
  intro j y h hy
  simp only [plB, Bool.and_eq_true, Bool.or_eq_true, decide_eq_true_eq] at h
  cases j with
  | zero => injection hy with hy; subst hy; exact h.1.1
  | succ j => exact ih h.2 hy
def VdF (s : SpF) (f : NdF) : Prop := insideX s f = none ∧ rgtF f = true
theorem root_deep (v : Int) : 1 + (rootX v).1.2.deep ≤ 6 := by
 unfold rootX
 split
 ·decide
 ·rename_i h
  have h' : v = 1 ∨ v = 2 ∨ v = 3 := by omega
  rcases h' with rfl | rfl | rfl <;> decide
theorem all_inj {F G : Fo} (hF : F.fit) (hG : G.fit) (rF : Fo.right 1 F = true) (rG : Fo.right 1 G = true) (lF : F.all.length ≤ 8192) (h : F.all = G.all) : F = G := by
 have h1 := gt_all F F.all.length 1 0 (Nat.le_refl _) (by omega) hF rF
 have h2 := gt_all G F.all.length 1 0 (by rw [h]; exact Nat.le_refl _) (by rw [← h]; omega) hG rG
 rw [h] at h1 h2
 rw [h2] at h1
 injection h1 with h1
 exact h1.symm
def idS18 : SpF → Bool
 | .nil => true
 | .cons d q r => identX d.name && idS18 q && idS18 r
theorem id_get {s : SpF} : ∀ {j : Nat} {y : Sp}, s.get? j = some y → idS18 s = true → identX y.1.name = true ∧ idS18 y.2 = true := by
 induction s with
 | nil => intro j y h; cases h
 | cons d q r _ ih =>
  intro j y h hs
  simp only [idS18, Bool.and_eq_true] at hs
  cases j with
  | zero => injection h with h; subst h; exact hs.1
  | succ j => exact ih h hs.2
theorem root_id (v : Int) : idS18 (rootX v).1.2 = true := by
 unfold rootX
 split
 ·decide
 ·rename_i h
  have h' : v = 1 ∨ v = 2 ∨ v = 3 := by omega
  rcases h' with rfl | rfl | rfl <;> decide
theorem vd_get18 {s : SpF} {f : NdF} (hp : plB s = true) (h : VdF s f) {a : NdD} {k : NdF} (hm : memF (a, k) f) : ∃ j y, s.get? j = some y ∧ y.1.name = a.name ∧
  ((y.1.kind = 1 ∧ a.key = [] ∧ k = .nil ∧ rightX y.1 (vlOf a) = true) ∨ (identX a.key = true ∧ a.kind = 0 ∧ a.num = 0 ∧ a.text = [] ∧ VdF y.2 k ∧ plB y.2 = true)) := by
 obtain ⟨i, hi⟩ := hm
 obtain ⟨j, y, hj, hy⟩ := all_get (scan_all h.1) hi
 obtain ⟨n, hn⟩ := scan_mem h.1 i a k hi j y hj hy
 obtain ⟨y', hy', hname, _⟩ := sp_get hj
 rw [hy] at hy'
 injection hy' with hy'
 subst hy'
 have hok := right_at.1 h.2 i (Fr.get_lt hi)
 unfold okAt at hok
 rw [hi] at hok
 simp only [Bool.and_eq_true] at hok
 have hx := hok.1
 refine ⟨j, y, hy, hname, ?_⟩
 unfold kidX1 at hn
 cases hh : headX y.1 a k n with
 | some e => rw [hh] at hn; cases hn
 | none =>
  rw [hh] at hn
  simp only at hn
  unfold headX at hh
  rcases pl_get hp hy with h1 | ⟨h3, hp2⟩
  ·rw [if_pos h1] at hh
   have hl : leafB y.1 a k = true := by
    cases hb : leafB y.1 a k with
    | true => rfl
    | false => rw [hb] at hh; cases hh
   simp only [leafB, Bool.and_eq_true, decide_eq_true_eq] at hl
   have hk0 : k = .nil := by
    cases k with
    | nil => rfl
    | cons b x z => have := hl.1.2; simp [Fr.len] at this
   exact .inl ⟨h1, hl.1.1, hk0, hl.2⟩
  ·have h1 : ¬ y.1.kind = 1 := by omega
   rw [if_neg h1, if_pos h3] at hh
   rw [if_neg h1] at hn
   have h0 : a.kind = 0 := by
    refine Classical.byContradiction fun hc => ?_
    rw [if_pos (.inl hc)] at hh
    cases hh
   have hky : identX a.key = true := by
    cases hb : identX a.key with
    | true => rfl
    | false => rw [if_pos (.inr hb)] at hh; cases hh
   unfold rgtX at hx
   rw [if_neg (by simp [h0])] at hx
   simp only [Bool.and_eq_true, decide_eq_true_eq] at hx
   exact .inr ⟨hky, h0, hx.1.1, hx.1.2, ⟨hn, hx.2⟩, hp2⟩
theorem nd_leaf {d : SpD} {a : NdD} (h : rightX d (vlOf a) = true) : ndOk a = true := by
 unfold rightX at h
 simp only [Bool.and_eq_true, decide_eq_true_eq] at h
 obtain ⟨⟨h1, h2⟩, h3⟩ := h
 have hk : 1 ≤ a.kind ∧ a.kind ≤ 6 ∧ (a.text = [] ∨ a.num = 0) := by
  split at h3
  ·rename_i ht
   simp only [Bool.and_eq_true, decide_eq_true_eq] at h3
   exact ⟨by omega, by omega, .inl h3.2⟩
  ·split at h3
   ·rename_i ht
    simp only [Bool.and_eq_true, decide_eq_true_eq] at h3
    exact ⟨by omega, by omega, .inl h3.2⟩
   ·split at h3
    ·rename_i ht
     simp only [Bool.and_eq_true, decide_eq_true_eq] at h3
     exact ⟨by omega, by omega, .inr h3.2⟩
    ·split at h3
     ·rename_i ht
      simp only [Bool.and_eq_true, decide_eq_true_eq] at h3
      exact ⟨by omega, by omega, .inr h3.2⟩
     ·cases h3
 simp only [ndOk, Bool.and_eq_true, decide_eq_true_eq]
 refine ⟨⟨⟨fun h => by omega, by omega⟩, by omega⟩, fun h => ?_⟩
 rcases hk.2.2 with e | e
 ·exact h.1 e
 ·exact h.2 e
theorem wel_of {n : Nat} : ∀ {f : NdF}, (∀ x, memF x f → 0 < n ∧ okS (stp x.1) = true ∧ okN18 x = true ∧ wel18 x.2 (n - 1)) → wel18 f n := by
 intro f
 induction f with
 | nil => intro _; trivial
 | cons a k r _ ih =>
  intro h
  obtain ⟨h1, h2, h3, h4⟩ := h (a, k) (mem_cons.2 (.inl rfl))
  exact ⟨h1, h2, h3, h4, ih fun x hx => h x (mem_cons.2 (.inr hx))⟩
theorem wel_okF : ∀ {f : NdF} {n : Nat}, wel18 f n → okF18 f = true := by
 intro f
 induction f with
 | nil => intro n _; rfl
 | cons a k r _ ih =>
  intro n ⟨_, _, h3, _, h5⟩
  simp only [okN18, Bool.and_eq_true] at h3
  simp only [okF18, Bool.and_eq_true]
  exact ⟨h3, ih h5⟩
def WelAt (s : SpF) : Prop := ∀ f n, plB s = true → idS18 s = true → VdF s f → s.deep ≤ n → wel18 f n
theorem wel_vd (s : SpF) : WelAt s := by
 refine Fr.byKids (P := WelAt) ?_ s
 clear s
 intro s IH f n hp hi hv hd
 refine wel_of fun x hx => ?_
 obtain ⟨a, k⟩ := x
 obtain ⟨j, ⟨yd, yq⟩, hy, hname, hc⟩ := vd_get18 hp hv hx
 have hdp := Fr.deep_get hy
 obtain ⟨hid, hiq⟩ := id_get hy hi
 simp only at hname hid hiq hc
 rw [hname] at hid
 rcases hc with ⟨_, hk, rfl, hr⟩ | ⟨hk, h0, h1, h2, hv2, hp2⟩
 ·refine ⟨by omega, ?_, ?_, trivial⟩
  ·unfold okS stp; simp [hid, hk]
  ·simp [okN18, nd_leaf hr, okF18]
 ·have hw : wel18 k (n - 1) := IH j yd yq hy k (n - 1) hp2 hiq hv2 (by omega)
  refine ⟨by omega, ?_, ?_, hw⟩
  ·unfold okS stp; simp [hid, hk]
  ·simp [okN18, ndOk, h0, h1, h2, wel_okF hw]
theorem may_wel {v : Int} {x : Nd} (h : MayX v x = true) : wel18 x.2 6 := by
 have h1 := check_zero.1 (of_decide_eq_true h)
 have hr : rgtF x.2 = true := (may_fit h).2
 exact wel_vd _ _ _ (root_pl v) (root_id v) ⟨h1.2.2.1, hr⟩ (by have := root_deep v; omega)
theorem may_edits {u v : Int} {x y : Nd} (hx : MayX u x = true) (hy : MayX v y = true) : (edF x.2 y.2 []).all okE18 = true :=
 List.all_eq_true.2 fun e he => wel_ed x.2 y.2 [] 6 (may_wel hx) (may_wel hy) rfl (by simp) e he
theorem root_deep4 (v : Int) : (rootX v).1.2.deep ≤ 4 := by
 unfold rootX
 split
 ·decide
 ·rename_i h
  have h' : v = 1 ∨ v = 2 ∨ v = 3 := by omega
  rcases h' with rfl | rfl | rfl <;> decide
theorem may_wel4 {v : Int} {x : Nd} (h : MayX v x = true) : wel18 x.2 4 := by
 have h1 := check_zero.1 (of_decide_eq_true h)
 have hr : rgtF x.2 = true := (may_fit h).2
 exact wel_vd _ _ _ (root_pl v) (root_id v) ⟨h1.2.2.1, hr⟩ (root_deep4 v)
theorem wel_mono : ∀ {f : NdF} {m n : Nat}, m ≤ n → wel18 f m → wel18 f n := by
 intro f
 induction f with
 | nil => intro m n _ _; trivial
 | cons a k r ihk ihr =>
  intro m n hmn ⟨h1, h2, h3, h4, h5⟩
  exact ⟨by omega, h2, h3, ihk (by omega) h4, ihr hmn h5⟩
theorem right_val {L : Nat → List UInt8} {a : NdD} {r : Fo} {deep : Nat} (hd : deep ≤ 6) (h : Fo.right deep r = true) : Fo.right deep (valI18 L a r) = true := by
 unfold valI18
 split
 ·exact h
 ·simp [Fo.right, hd, h, Fo.len]
theorem right_in {L : Nat → List UInt8} {a : NdD} {r : Fo} {deep : Nat} (hd : deep ≤ 6) (h : Fo.right deep r = true) : Fo.right deep (inI18 L a r) = true := by
 have h2 := right_val (L := L) (a := a) hd h
 unfold inI18 keyI18
 split
 ·simp [Fo.right, hd, h2, Fo.len]
 ·simp [Fo.right, hd, h2, Fo.len]
theorem right_itm {L : Nat → List UInt8} : ∀ (f : NdF) (n deep : Nat), wel18 f n → deep + n ≤ 6 → Fo.right deep (itmF18 L f) = true := by
 intro f
 induction f with
 | nil => intro n deep _ _; rfl
 | cons a k r ihk ihr =>
  intro n deep ⟨h1, h2, h3, h4, h5⟩ hd
  have e1 := right_in (L := L) (a := a) (show deep + 1 ≤ 6 by omega) (ihk (n - 1) (deep + 1) h4 (by omega))
  have e2 := ihr n deep h5 hd
  simp [itmF18, Fo.right, e1, e2, show deep ≤ 6 by omega]
theorem right_itm1 {L : Nat → List UInt8} {t : Nat} (ht : t % 2 = 1) {x : Nd} {r : Fo} (h : wel18 x.2 3) (hr : Fo.right 2 r = true) : Fo.right 2 (itm18 L t x r) = true := by
 have e1 := right_in (L := L) (a := x.1) (show 3 ≤ 6 by decide) (right_itm (L := L) x.2 3 3 h (by decide))
 simp [itm18, Fo.right, ht, e1, hr]
theorem right_its {L : Nat → List UInt8} : ∀ l : List EdD, (∀ e ∈ l, okE18 e = true ∧ wel18 e.node.2 3 ∧ wel18 e.old.2 3) → Fo.right 1 (itsE18 L l) = true := by
 intro l
 induction l with
 | nil => intro _; rfl
 | cons e l ih =>
  intro h
  obtain ⟨h1, h2, h3⟩ := h e (by simp)
  have ih2 := ih fun x hx => h x (by simp [hx])
  simp only [okE18, Bool.and_eq_true, Bool.or_eq_true, decide_eq_true_eq] at h1
  obtain ⟨⟨⟨⟨⟨⟨hk, _⟩, _⟩, _⟩, _⟩, _⟩, _⟩ := h1
  have e1 : Fo.right 2 (itm18 L 5 e.old .nil) = true := right_itm1 (by decide) h3 rfl
  have e2 : ∀ r, Fo.right 2 r = true → Fo.right 2 (itm18 L 3 e.node r) = true := fun r hr => right_itm1 (by decide) h2 hr
  rcases hk with (hk | hk) | hk
  ·have e3 := e2 .nil rfl
   simp [itsE18, hk, Fo.right, e3, ih2, Fo.len]
  ·simp [itsE18, hk, Fo.right, e1, ih2, Fo.len]
  ·have e3 := e2 _ e1
   simp [itsE18, hk, Fo.right, e3, ih2, Fo.len]
theorem ed_dep (f g : NdF) (w : List Stp) : ∀ n, wel18 f n → wel18 g n → ∀ e ∈ edF f g w, wel18 e.node.2 (n - 1) ∧ wel18 e.old.2 (n - 1) := by
 refine ed_ind (P := fun f g w => ∀ n, wel18 f n → wel18 g n → ∀ e ∈ edF f g w, wel18 e.node.2 (n - 1) ∧ wel18 e.old.2 (n - 1))
  (fun w n _ _ e he => ?_) (fun a k r w ih n hf hg e he => ?_) (fun b q s w ih n hf hg e he => ?_) (fun a k r b q s w h ih n hf hg e he => ?_) (fun a k r b q s w h1 h2 ih n hf hg e he => ?_) (fun a k r b q s w h1 h2 hs ihk ih n hf hg e he => ?_) f g w
 ·rw [edF_nil] at he; cases he
 ·rw [edF_del] at he
  rcases List.mem_cons.1 he with rfl | he
  ·exact ⟨trivial, hf.2.2.2.1⟩
  ·exact ih n hf.2.2.2.2 hg e he
 ·rw [edF_new] at he
  rcases List.mem_cons.1 he with rfl | he
  ·exact ⟨hg.2.2.2.1, trivial⟩
  ·exact ih n hf hg.2.2.2.2 e he
 ·rw [edF_lt h] at he
  rcases List.mem_cons.1 he with rfl | he
  ·exact ⟨trivial, hf.2.2.2.1⟩
  ·exact ih n hf.2.2.2.2 hg e he
 ·rw [edF_gt h1 h2] at he
  rcases List.mem_cons.1 he with rfl | he
  ·exact ⟨hg.2.2.2.1, trivial⟩
  ·exact ih n hf hg.2.2.2.2 e he
 ·rw [edF_eq h1 h2] at he
  rcases List.mem_append.1 he with he | he
  ·unfold edK at he
   split at he
   ·cases he
   ·split at he
    ·rcases List.mem_cons.1 he with rfl | he
     ·exact ⟨hg.2.2.2.1, hf.2.2.2.1⟩
     ·cases he
    ·split at he
     ·have h9 := ihk (n - 1) hf.2.2.2.1 hg.2.2.2.1 e he
      exact ⟨wel_mono (by omega) h9.1, wel_mono (by omega) h9.2⟩
     ·rcases List.mem_cons.1 he with rfl | he
      ·exact ⟨trivial, hf.2.2.2.1⟩
      ·rcases List.mem_cons.1 he with rfl | he
       ·exact ⟨hg.2.2.2.1, trivial⟩
       ·cases he
  ·exact ih n hf.2.2.2.2 hg.2.2.2.2 e he
theorem may_put {L : Nat → List UInt8} {u v : Int} {x y : Nd} (hx : MayX u x = true) (hy : MayX v y = true) :
  putX18 L (edF x.2 y.2 []) = if (itsE18 L (edF x.2 y.2 [])).all.length ≤ 8192 then ((itsE18 L (edF x.2 y.2 [])).all, 0) else ([], 14) := by
 have h1 := may_edits hx hy
 have h2 : Fo.right 1 (itsE18 L (edF x.2 y.2 [])) = true := right_its _ fun e he => ⟨List.all_eq_true.1 h1 e he, ed_dep x.2 y.2 [] 4 (may_wel4 hx) (may_wel4 hy) e he⟩
 unfold putX18
 rw [if_pos h1]
 by_cases h3 : (itsE18 L (edF x.2 y.2 [])).all.length ≤ 8192
 ·rw [if_pos ⟨h2, h3⟩, if_pos h3]
 ·rw [if_neg (fun h => h3 h.2), if_neg h3]
theorem stepT_len18 {s : Stp} (h : okS s = true) : (stepT s).length ≤ 27 := by
 obtain ⟨h1, h2⟩ := okS_len18 h
 unfold stepT
 split <;> simp only [List.length_cons, List.length_append, List.length_nil] <;> omega
theorem catT_len18 : ∀ l : List Stp, l.all okS = true → (catT l).length ≤ 27 * l.length := by
 intro l
 induction l with
 | nil => intro _; simp [catT]
 | cons s l ih =>
  intro h
  simp only [List.all_cons, Bool.and_eq_true] at h
  have h1 := stepT_len18 h.1
  have h2 := ih h.2
  simp only [catT, List.length_append, List.length_cons]
  omega
theorem show_len18 (l : List Stp) : (showX l).length ≤ 200 := by
 unfold showX
 split
 ·rename_i h
  split
  ·simp
  ·split
   ·simp
   ·have := catT_len18 l h; omega
 ·simp
theorem inI_cnt18 (a : NdD) (r : Fo) : (inI18 leastB a r).cnt ≤ 3 + r.cnt := by
 have hv : (valI18 leastB a r).cnt ≤ 1 + r.cnt := by
  unfold valI18
  split
  ·omega
  ·simp only [Fo.cnt]; omega
 unfold inI18 keyI18
 simp only [Fo.cnt]
 split
 ·omega
 ·simp only [Fo.cnt]; omega
theorem itm_few18 : ∀ f : NdF, OkF f → (itmF18 leastB f).sz ≤ 3145742 * f.size ∧ (itmF18 leastB f).cnt ≤ 4 * f.size := by
 intro f
 induction f with
 | nil => intro _; exact ⟨Nat.le_refl _, Nat.le_refl _⟩
 | cons a k r ihk ihr =>
  intro h
  obtain ⟨k1, k2⟩ := ihk h.2.1
  obtain ⟨r1, r2⟩ := ihr h.2.2
  have h1 := inI_sz18 a (itmF18 leastB k) h.1.num
  have h2 := inI_cnt18 a (itmF18 leastB k)
  have n1 := h.1.name
  have n2 := h.1.key
  have n3 := h.1.text
  simp only [itmF18, Fo.sz, Fo.cnt, Fr.size, List.length_nil]
  constructor <;> omega
theorem rway10_any (l : List Stp) (v : Value) (a : NdD) (u : Value) (w : World) (hv : WayV w.heap.size w v l) (hl : l.length ≤ 1000000) :
  Calls Tryz.prog 70 #[v, .agg (cN a u)] w fun r w' => ∃ v', r = .returned v' ∧ OwnS w.heap.size w' v' (l ++ [stp a]) ∧ Below w.heap.size w w' := by
 obtain ⟨A, c, rfl⟩ := hv.shape
 have hx1 : Below w.heap.size w (w.alloc (.cells (cN a u) 42)) := bAl
 obtain ⟨v1, w1, hr1, hown, hb1⟩ := app_way (w.alloc (.cells (cN a u) 42)) (.slice A l.length c) l (hv.below hx1) hl
 obtain ⟨A1, c1, rfl⟩ := hown.shape
 have HB1 : Hid (Below w.heap.size w w1) := hHd (hx1.trans (hb1.mono hx1.size))
 have HOW := hHd (hown.mono hx1.size)
 have HNB := hHd ((Blk.new w 42 (cN a u)).below hb1 (Blk.new w 42 (cN a u)).lt)
 obtain ⟨v2, w2, hr2, hap⟩ := run_append_k (P := Tryz.prog) (ts := 53) Tryz.underlying53 Tryz.cellsSt szeroN (by omega) (w1.alloc (.cells #[.string (txt a.name), .string (txt a.key)] 52)) w.heap.size (.slice A1 l.length c1) l.length (stC l) ((HOW.out.below bAl : OwnS w.heap.size (w1.alloc (.cells #[.string (txt a.name), .string (txt a.key)] 52)) (.slice A1 l.length c1) l)) w1.heap.size [.string (txt a.name), .string (txt a.key)] (Blk.new w1 52 _) rfl (by simp [Value.oneCell']) (by omega) (by omega) (Nat.le_trans HB1.out.size (by simp))
 have HR1 := hHd hr1
 have HR2 := hHd hr2
 have HAP := hHd hap
 clear hx1 hr1 hown hb1 hr2 hap hv
 obtain ⟨q0, q1, q2, q3, q4, q5⟩ := cl6 HNB.out
 go_enter Tryz.func70, Tryz.ntmps70
 go_wp2_with (at_builtin; first | (refine Lib.wpList_append_run _ rfl (.tmp 6) (.tmp 7) 53 53 rfl _ _ rfl rfl _ _ HR1.out ?_) | (refine Lib.wpList_append_run _ rfl (.tmp 9) (.tmp 15) 53 53 rfl _ _ rfl rfl _ _ HR2.out ?_))
 go_ret
 have hst : stC l ++ [.string (txt a.name), .string (txt a.key)] = stC (l ++ [stp a]) := (stC_app l [stp a]).symm
 refine ⟨v2, rfl, ?_, HB1.out.trans (((Below.refl _ _).alloc HB1.out.size _).trans (HAP.out.below (HOW.out.below bAl) (Nat.le_trans HB1.out.size (by simp))))⟩
 have h := HAP.out.1
 rw [hst] at h
 show OwnK 52 2 w2 w.heap.size v2 (l ++ [stp a]).length (stC (l ++ [stp a]))
 rw [List.length_append]
 exact h
end Go.Proofs.YtleidkpdpabkpaaGreatDoor
