/- EdtRefJ VadNum VadOk PakNum PakMem EdtRefC -/
import Derived.Test.YtleidkpdpabkpaaGreatDoorAM9
set_option linter.unusedSimpArgs false
set_option linter.unusedVariables false
set_option maxRecDepth 100000
set_option maxHeartbeats 8000000
namespace Go.Proofs.YtleidkpdpabkpaaGreatDoor
open Go.RowKit
section
attribute [local go_sem] Oper.semAt_some
theorem read_drop18 {t u : Nat} {d : List UInt8} {q : Fo} {f : Fo} {j : Nat} (h : Fo.drop j f = .cons u d q (Fo.drop (j + 1) f)) : read18 V18 t (Fo.drop j f) = if u = t then (kid18 V18 q, red18 V18 q) else read18 V18 t (Fo.drop (j + 1) f) := by rw [h]; rfl
theorem rread18_any (f : Fo) (t : Nat) (v : Value) (w : World) (hv : FV DataR w (Lo w) v f) (hsz : f.sz ≤ 1000000) :
  Calls Tryz.prog 36 #[v, .int .u64 (t : Int)] w (PTreP1 0 (read18 V18 t f) w) := by
 obtain ⟨A, c, rfl⟩ := hv.shape
 have HV := hHd hv
 have HSZ := hHd hsz
 have HKL : Hid (f.len ≤ 1000000) := hHd (Nat.le_trans (len_sz18 f) hsz)
 have HZ0 : Hid (Blk (w.alloc (.cells #[.string ⟨#[]⟩, .string ⟨#[]⟩, .int .i64 0, .int .u64 0, .string ⟨#[]⟩, .slice none 0 0] 42)) w.heap.size 42 #[.string ⟨#[]⟩, .string ⟨#[]⟩, .int .i64 0, .int .u64 0, .string ⟨#[]⟩, .slice none 0 0]) := hHd (Blk.new _ _ _)
 have HB0 : Hid (Below w.heap.size w (w.alloc (.cells #[.string ⟨#[]⟩, .string ⟨#[]⟩, .int .i64 0, .int .u64 0, .string ⟨#[]⟩, .slice none 0 0] 42))) := hHd bAl
 clear hv hsz
 go_enter Tryz.func36, Tryz.ntmps36
 go_wp2
 go_loopw [5] (fun i wr => ∃ (j : Nat), j ≤ f.len ∧ i = .int .i64 (j : Int) ∧ Hid (read18 V18 t f = read18 V18 t (Fo.drop j f)) ∧ Hid (Blk wr w.heap.size 42 #[.string ⟨#[]⟩, .string ⟨#[]⟩, .int .i64 0, .int .u64 0, .string ⟨#[]⟩, .slice none 0 0]) ∧ Hid (Below w.heap.size w wr)) (fun i _ => f.len - (intOf i).toNat)
 case atStart => exact ⟨0, Nat.zero_le _, rfl, hHd rfl, HZ0, HB0⟩
 case round =>
  clear HZ0 HB0
  obtain ⟨j, hj, rfl, HR, HZ, HB⟩ := hrel
  obtain ⟨w7, hw7⟩ : ∃ w7, w7 = wr := ⟨_, rfl⟩
  subst hw7
  have i1 : (0 : Int) ≤ (j : Int) := by omega
  have i3 : (f.len : Int) ≤ 1000000 := by have := HKL.out; omega
  by_cases hlt : j < f.len
  ·have i2 : (j : Int) < (f.len : Int) := by omega
   obtain ⟨b, o, c', u, d, q, hve, hcap, hS, hdr, htk, ht64, hc0, ⟨dv, hc1, hdv⟩, ⟨kv, hc2, hkv⟩⟩ := HV.out.at hlt
   injection hve with e1 e2 e3
   subst e1 e3
   have hdv' : dv = .string (txt d) := hdv
   subst hdv'
   have hSb : b < w.heap.size := hS
   have C0 : w7.cell? ⟨b, o + j * 3, none⟩ = some (.int .u64 (u : Int)) := (HB.out.cell (p := ⟨b, o + j * 3, none⟩) hSb).trans hc0
   have hra := read_drop18 (t := t) hdr
   by_cases hu : u = t
   ·subst hu
    have e1 : ((u : Int) == (u : Int)) = true := beq_self_eq_true _
    obtain ⟨A2, c2, rfl⟩ := hkv.shape
    have C1 : w7.cell? ⟨b, o + j * 3 + 1, none⟩ = some (.string (txt d)) := (HB.out.cell (p := ⟨b, o + j * 3 + 1, none⟩) hSb).trans hc1
    have C2 : w7.cell? ⟨b, o + j * 3 + 2, none⟩ = some (.slice A2 q.len c2) := (HB.out.cell (p := ⟨b, o + j * 3 + 2, none⟩) hSb).trans hc2
    obtain ⟨⟨qa, qf⟩, hq⟩ : ∃ y, y = (kid18 V18 q, red18 V18 q) := ⟨_, rfl⟩
    have HX : Hid (read18 V18 u f = (qa, qf)) := hHd (by rw [HR.out, hra, if_pos rfl, hq])
    have HKQ : Hid (Calls Tryz.prog 64 #[.agg #[.int .u64 (u : Int), .string (txt d), .slice A2 q.len c2]] w7 (PTreP1 0 (qa, qf) w7)) := hHd (by
     rw [hq]
     exact rkid18_any q u d A2 c2 w7 (hkv.kept stays_R (fun g hg => HB.out.block g hg) (fun _ hg => Nat.lt_of_lt_of_le hg HB.out.size)) (by have := sz_drop18 hdr; have := HSZ.out; omega))
    clear hcap hdr htk ht64 hc0 hc1 hdv hc2 hkv hra hq
    go_wp2_with fail
    refine HKQ.out.mono ?_
    intro r w8 hr
    obtain ⟨A8, c8, rfl, hl8, hb8⟩ := hr.flat
    have HZ8 := hHd (HZ.out.below hb8 HZ.out.lt)
    have V9 : Veil18k (Blk (set6 w8 w.heap.size (.string (txt qa.name)) (.string (txt qa.key)) (.int .i64 qa.kind) (.int .u64 (qa.num : Int)) (.string (txt qa.text)) (.slice A8 qf.len c8)) w.heap.size 42 (cN qa (.slice A8 qf.len c8)) ∧ LieP 0 w.heap.size (set6 w8 w.heap.size (.string (txt qa.name)) (.string (txt qa.key)) (.int .i64 qa.kind) (.int .u64 (qa.num : Int)) (.string (txt qa.text)) (.slice A8 qf.len c8)) (ndC qa (.slice A8 qf.len c8)) (qa, qf) ∧ Below w.heap.size w (set6 w8 w.heap.size (.string (txt qa.name)) (.string (txt qa.key)) (.int .i64 qa.kind) (.int .u64 (qa.num : Int)) (.string (txt qa.text)) (.slice A8 qf.len c8))) := .mk
     ⟨HZ8.out.set6 _ _ _ _ _ _, (hl8.set6 (Nat.zero_le _) HZ.out.lt _ _ _ _ _ _).after HB.out.size, (HB.out.trans (hb8.mono HB.out.size)).trans (set6_below (Nat.le_refl _))⟩
    have fz0 : (w8).frozen? ⟨w.heap.size, 0, none⟩ = false := HZ8.out.frozen 0
    have fq0 := (HZ8.out.cell 0).trans rfl
    have fz1 : (w8).frozen? ⟨w.heap.size, 1, none⟩ = false := HZ8.out.frozen 1
    have fq1 := (HZ8.out.cell 1).trans rfl
    have fz2 : (w8).frozen? ⟨w.heap.size, 2, none⟩ = false := HZ8.out.frozen 2
    have fq2 := (HZ8.out.cell 2).trans rfl
    have fz3 : (w8).frozen? ⟨w.heap.size, 3, none⟩ = false := HZ8.out.frozen 3
    have fq3 := (HZ8.out.cell 3).trans rfl
    have fz4 : (w8).frozen? ⟨w.heap.size, 4, none⟩ = false := HZ8.out.frozen 4
    have fq4 := (HZ8.out.cell 4).trans rfl
    have fz5 : (w8).frozen? ⟨w.heap.size, 5, none⟩ = false := HZ8.out.frozen 5
    have fq5 := (HZ8.out.cell 5).trans rfl
    clear hr hl8 hb8 HZ HB HZ8 HKQ C0 C1 C2
    go_wp2_with fail
    refine bodyPost_ret (results_cell_row rfl _ _ w.heap.size 42 _ (0, 0) _ rfl V9.out.1 Tryz.underlying42 rfl (by kernel_rfl)) rfl ?_
    rw [HX.out]
    exact ⟨_, rfl, V9.out.2.1, V9.out.2.2⟩
   ·have e1 : ((u : Int) == (t : Int)) = false := by rw [beq_eq_false_iff_ne]; omega
    have e2 : (u == t) = false := beq_eq_false_iff_ne.2 hu
    have HX : Hid (read18 V18 t f = read18 V18 t (Fo.drop (j + 1) f)) := hHd (by rw [HR.out, hra, if_neg hu])
    clear hcap hdr htk ht64 hc0 hc1 hdv hc2 hkv hra hu
    go_wp2_with fail
    go_roundw
    case rel => exact ⟨j + 1, by omega, by go_num, HX, HZ, HB⟩
    case measure => simp [intOf]; omega
  ·obtain rfl : j = f.len := by omega
   have i2 : ¬ (f.len : Int) < (f.len : Int) := by omega
   have HX : Hid (read18 V18 t f = noN) := hHd (by rw [HR.out, drop_len18]; rfl)
   have V9 : Veil18k (Blk (set6 w7 w.heap.size (.string ⟨#[]⟩) (.string ⟨#[]⟩) (.int .i64 0) (.int .u64 0) (.string ⟨#[]⟩) (.slice none 0 0)) w.heap.size 42 #[.string ⟨#[]⟩, .string ⟨#[]⟩, .int .i64 0, .int .u64 0, .string ⟨#[]⟩, .slice none 0 0] ∧ Below w.heap.size w (set6 w7 w.heap.size (.string ⟨#[]⟩) (.string ⟨#[]⟩) (.int .i64 0) (.int .u64 0) (.string ⟨#[]⟩) (.slice none 0 0))) := .mk ⟨HZ.out.set6 _ _ _ _ _ _, HB.out.trans (set6_below (Nat.le_refl _))⟩
   have fz0 : (w7).frozen? ⟨w.heap.size, 0, none⟩ = false := HZ.out.frozen 0
   have fq0 := (HZ.out.cell 0).trans rfl
   have fz1 : (w7).frozen? ⟨w.heap.size, 1, none⟩ = false := HZ.out.frozen 1
   have fq1 := (HZ.out.cell 1).trans rfl
   have fz2 : (w7).frozen? ⟨w.heap.size, 2, none⟩ = false := HZ.out.frozen 2
   have fq2 := (HZ.out.cell 2).trans rfl
   have fz3 : (w7).frozen? ⟨w.heap.size, 3, none⟩ = false := HZ.out.frozen 3
   have fq3 := (HZ.out.cell 3).trans rfl
   have fz4 : (w7).frozen? ⟨w.heap.size, 4, none⟩ = false := HZ.out.frozen 4
   have fq4 := (HZ.out.cell 4).trans rfl
   have fz5 : (w7).frozen? ⟨w.heap.size, 5, none⟩ = false := HZ.out.frozen 5
   have fq5 := (HZ.out.cell 5).trans rfl
   clear HZ HB HR hlt
   go_wp2_with fail
   refine bodyPost_ret (results_cell_row rfl _ _ w.heap.size 42 _ (0, 0) _ rfl V9.out.1 Tryz.underlying42 rfl (by kernel_rfl)) rfl ?_
   rw [HX.out]
   exact ⟨_, rfl, (LieB.zero _ _).p _, V9.out.2⟩
end
abbrev Bad := Nat × List Stp
def under (a : NdD) : Option Bad → Option Bad
 | none => none
 | some b => some (b.1, stp a :: b.2)
structure OkD (a : NdD) : Prop where
 name : a.name.length ≤ 1048576
 key : a.key.length ≤ 1048576
 lo : -9223372036854775808 ≤ a.kind
 hi : a.kind ≤ 9223372036854775807
 num : a.num < 18446744073709551616
 text : a.text.length ≤ 1048576
def OkF : NdF → Prop
 | .nil => True
 | .cons a k r => OkD a ∧ OkF k ∧ OkF r
abbrev OkN (x : Nd) : Prop := OkD x.1 ∧ OkF x.2
theorem OkF.at {f : NdF} : ∀ {i : Nat} {y : Nd}, OkF f → f.get? i = some y → OkN y := by
 induction f with
 | nil => intro i y _ h; cases h
 | cons a k r _ ih =>
  intro i y hf h
  cases i with
  | zero => injection h with h; subst h; exact ⟨hf.1, hf.2.1⟩
  | succ i => exact ih hf.2.2 h
theorem OkF.of {f : NdF} : (∀ i y, f.get? i = some y → OkN y) → OkF f := by
 induction f with
 | nil => intro _; trivial
 | cons a k r _ ih => intro h; exact ⟨(h 0 _ rfl).1, (h 0 _ rfl).2, ih fun i y hy => h (i + 1) y hy⟩
theorem OkD.zero : OkD zeroT := ⟨by decide, by decide, by decide, by decide, by decide, by decide⟩
def geT (n : Nat) : Fo → Prop
 | .nil => True
 | .cons t _ _ r => n ≤ t ∧ geT n r
theorem geT.mono {m n : Nat} (h : m ≤ n) : ∀ {f : Fo}, geT n f → geT m f := by
 intro f
 induction f with
 | nil => intro _; trivial
 | cons t d k r _ ih => intro ⟨h1, h2⟩; exact ⟨by omega, ih h2⟩
theorem geT.app {n : Nat} : ∀ {f g : Fo}, geT n f → geT n g → geT n (f.app g) := by
 intro f
 induction f with
 | nil => intro g _ h; exact h
 | cons t d k r _ ih => intro g ⟨h1, h2⟩ h; exact ⟨h1, ih h2 h⟩
section
variable {D : World → (Nat → Prop) → Value → List UInt8 → Prop} {e : TypeId} {w w' : World} {base : Nat} {v : Value} {f : Fo}
theorem OwnF.mono {base' : Nat} (h : OwnF D e w base' v f) (hD : Stays D) (hb : base ≤ base') : OwnF D e w base v f := by
 obtain ⟨xs, h1, h2⟩ := h
 exact ⟨xs, World.ownsRow.mono h1 hb, h2.kept hD (fun _ _ => rfl) (fun g hg => ⟨Nat.le_trans hb hg.1, hg.2⟩)⟩
theorem OwnF.shape (h : OwnF D e w base v f) : ∃ A c, v = .slice A f.len c := by
 obtain ⟨xs, h1, _⟩ := h
 rcases h1.2 with ⟨rfl, h0⟩ | ⟨g, cap, cur, rfl, _⟩
 ·exact ⟨none, 0, by rw [h0]⟩
 ·exact ⟨_, cap, rfl⟩
theorem OwnF.ne {g : Nat} {t : TypeId} {cs : Array Value} (h : OwnF D e w base v f) (hb : Blk w g t cs) (ht : t ≠ e) : v.ownBlock ≠ some g := by
 obtain ⟨xs, h1, _⟩ := h
 rcases h1.2 with ⟨rfl, _⟩ | ⟨g', cap, cur, rfl, _, hg, _⟩
 ·intro h; cases h
 ·intro h
  injection h with h
  subst h
  have := hg.symm.trans hb
  injection this with this
  injection this with _ h2
  exact ht h2.symm
theorem rowOf.len_ {S : Nat → Prop} : ∀ {f : Fo} {xs : List Value}, rowOf D w S xs f → xs.length = f.len * 3 := by
 intro f
 induction f with
 | nil => intro xs h; rw [h.nil_]; simp [Fo.len]
 | cons t d k r _ ih =>
  intro xs h
  obtain ⟨a, b, c, ys, rfl, _, _, _, _, h5⟩ := h.cons_
  have := ih h5
  simp only [List.length_cons, Fo.len, this]
  omega
theorem rowOf.init_ {S : Nat → Prop} {t : Nat} {d : List UInt8} {k : Fo} : ∀ {f : Fo} {xs : List Value}, rowOf D w S xs (f.app (.cons t d k .nil)) → ∃ ys a b c, xs = ys ++ [a, b, c] ∧ rowOf D w S ys f := by
 intro f
 induction f with
 | nil =>
  intro xs h
  obtain ⟨a, b, c, ys, rfl, _, _, _, _, h5⟩ := h.cons_
  have h6 : rowOf D w S ys .nil := h5
  rw [h6.nil_]
  exact ⟨[], a, b, c, rfl, trivial⟩
 | cons t' d' k' r _ ih =>
  intro xs h
  obtain ⟨a, b, c, zs, rfl, h1, h3, h4, h5, h6⟩ := rowOf.cons_ (k := k') (r := r.app (.cons t d k .nil)) h
  obtain ⟨ys, x, y, z, rfl, h7⟩ := ih h6
  exact ⟨a :: b :: c :: ys, x, y, z, rfl, h1, h3, h4, h5, h7⟩
end
def set3o (w : World) (b o : Nat) (x0 x1 x2 : Value) : World := ((w.setCell ⟨b, o, none⟩ x0).setCell ⟨b, o + 1, none⟩ x1).setCell ⟨b, o + 2, none⟩ x2
theorem set3o_size (w : World) (b o : Nat) (x0 x1 x2 : Value) : (set3o w b o x0 x1 x2).heap.size = w.heap.size := by simp [set3o, World.setCell]
theorem set3o_far {w : World} {b o g : Nat} {x0 x1 x2 : Value} (h : g ≠ b) : (set3o w b o x0 x1 x2).heap[g]? = w.heap[g]? := by
 unfold set3o
 rw [Below.heap_setCell _ _ _ _ h, Below.heap_setCell _ _ _ _ h, Below.heap_setCell _ _ _ _ h]
theorem set_last {α : Type} (ys : List α) (a b c x y z : α) : (((ys ++ [a, b, c]).set ys.length x).set (ys.length + 1) y).set (ys.length + 2) z = ys ++ [x, y, z] := by
 induction ys with
 | nil => rfl
 | cons p ys ih => simp
theorem OwnF.last {D : World → (Nat → Prop) → Value → List UInt8 → Prop} (hD : Stays D) {e : TypeId} {w : World} {base g c n : Nat} {f : Fo} {t0 t : Nat} {d0 d : List UInt8} {k0 k : Fo} {dv kv : Value} (hn : n = f.len + 1)
  (h : OwnF D e w base (.slice (some ⟨g, 0, none⟩) n c) (f.app (.cons t0 d0 k0 .nil))) (ht : t < 18446744073709551616) (hd : D w (ItsI base w (.slice (some ⟨g, 0, none⟩) n c)) dv d) (hk : FV D w (ItsI base w (.slice (some ⟨g, 0, none⟩) n c)) kv k) :
  OwnF D e (set3o w g (f.len * 3) (.int .u64 (t : Int)) dv kv) base (.slice (some ⟨g, 0, none⟩) n c) (f.app (.cons t d k .nil)) := by
 subst hn
 obtain ⟨xs, h1, h2⟩ := h
 obtain ⟨ys, a, b, c', rfl, h3⟩ := h2.init_
 have hl := h3.len_
 have hlen : (f.app (.cons t0 d0 k0 .nil)).len = f.len + 1 := by rw [Fo.len_app]; rfl
 have hlen' : (f.app (.cons t d k .nil)).len = f.len + 1 := by rw [Fo.len_app]; rfl
 rw [hlen] at h1
 have s1 := (World.ownsRow.stored h1 (f.len * 3) (.int .u64 (t : Int))).1
 have s2 := (World.ownsRow.stored s1 (f.len * 3 + 1) dv).1
 have s3 := (World.ownsRow.stored s2 (f.len * 3 + 2) kv).1
 have e1 : ((((ys ++ [a, b, c']).set (f.len * 3) (.int .u64 (t : Int))).set (f.len * 3 + 1) dv).set (f.len * 3 + 2) kv) = ys ++ [.int .u64 (t : Int), dv, kv] := by rw [← hl]; exact set_last ys a b c' _ _ _
 rw [e1] at s3
 have hkeep : ∀ x, ItsI base w (.slice (some ⟨g, 0, none⟩) (f.len + 1) c) x → (set3o w g (f.len * 3) (.int .u64 (t : Int)) dv kv).heap[x]? = w.heap[x]? := fun x hx => set3o_far (fun e => hx.2.2 (by rw [e]; rfl))
 have hS : ∀ x, ItsI base w (.slice (some ⟨g, 0, none⟩) (f.len + 1) c) x → ItsI base (set3o w g (f.len * 3) (.int .u64 (t : Int)) dv kv) (.slice (some ⟨g, 0, none⟩) (f.len + 1) c) x := fun x hx => ⟨hx.1, by rw [set3o_size]; exact hx.2.1, hx.2.2⟩
 refine ⟨ys ++ [.int .u64 (t : Int), dv, kv], by rw [hlen']; exact s3, ?_⟩
 exact rowOf.snoc rfl ht (hD _ _ _ _ _ _ hkeep hS hd) (hk.kept hD hkeep hS) (h3.kept hD hkeep hS)
def ManyF (D : World → (Nat → Prop) → Value → List UInt8 → Prop) (e : TypeId) (w : World) (base : Nat) (v : Value) (f : Fo) (v' : Value) (w' : World) : Prop :=
 OwnF D e w' base v' f ∧ w.grownBy w' v.ownBlock ∧ (v'.ownBlock = v.ownBlock ∨ v'.ownBlock = some w.heap.size)
theorem ManyF.below {D : World → (Nat → Prop) → Value → List UInt8 → Prop} {e : TypeId} {w w' : World} {base : Nat} {v v' : Value} {f f0 : Fo} (h : ManyF D e w base v f v' w') (hown : OwnF D e w base v f0) (hb : base ≤ w.heap.size) : Below base w w' :=
 (Below.refl _ _).grown h.2.1 hb fun k e => (hown.lt k e).1
section
attribute [local go_sem] Oper.semAt_some
theorem itm_take18 (L : Nat → List UInt8) {a : NdD} {q : NdF} : ∀ {f : NdF} {j : Nat}, f.get? j = some (a, q) → itmF18 L (Fr.take (j + 1) f) = (itmF18 L (Fr.take j f)).app (.cons 7 [] (inI18 L a (itmF18 L q)) .nil) := by
 intro f
 induction f with
 | nil => intro j h; cases h
 | cons b k r _ ih =>
  intro j h
  cases j with
  | zero => injection h with h; injection h with h1 h2; subst h1 h2; rfl
  | succ j => simp only [Fr.take, itmF18, Fo.app]; rw [ih h]
theorem itm_len18 (L : Nat → List UInt8) (f : NdF) : (itmF18 L f).len = f.len := by
 induction f with
 | nil => rfl
 | cons a k r _ ih => simp only [itmF18, Fo.len, Fr.len, ih]
theorem take_len18 : ∀ (j : Nat) (f : NdF), (Fr.take j f).len ≤ j := by
 intro j
 induction j with
 | zero => intro f; cases f <;> exact Nat.le_refl 0
 | succ j ih => intro f; cases f with | nil => exact Nat.zero_le _ | cons a k r => exact Nat.succ_le_succ (ih r)
theorem inI_app18 (L : Nat → List UInt8) (a : NdD) (r : Fo) : inI18 L a r = (inI18 L a .nil).app r := by
 unfold inI18 keyI18 valI18
 split <;> split <;> rfl
theorem inI_len18 (L : Nat → List UInt8) (a : NdD) : (inI18 L a .nil).len ≤ 3 := by
 unfold inI18 keyI18 valI18
 split <;> split <;> simp [Fo.len]
def St18 (w : World) (a : NdD) (f : NdF) (A : Option Addr) (c : Nat) (u : Value) (F : Fo) (W : World) : Prop :=
 Blk W w.heap.size 42 (cN a (.slice A f.len c)) ∧ Blk W (w.heap.size + 1) 79 #[.int .u64 0, .string ⟨#[]⟩, .slice none 0 0] ∧ OwnF DataR 79 W (w.heap.size + 2) u F ∧ Below w.heap.size w W ∧ w.heap.size + 2 ≤ W.heap.size
theorem St18.go {w : World} {a : NdD} {f : NdF} {A : Option Addr} {c : Nat} {u : Value} {F : Fo} {W W' : World} (h : St18 w a f A c u F W) (hb : Below W.heap.size W W') : St18 w a f A c u F W' :=
 ⟨h.1.below hb h.1.lt, h.2.1.below hb h.2.1.lt, h.2.2.1.below stays_R hb, h.2.2.2.1.trans (hb.mono h.2.2.2.1.size), Nat.le_trans h.2.2.2.2 hb.size⟩
theorem St18.app {w : World} {a : NdD} {f : NdF} {A : Option Addr} {c : Nat} {u v' : Value} {F G : Fo} {W w' : World} (h : St18 w a f A c u F W) (hap : AppF DataR 79 W (w.heap.size + 2) u G v' w') : St18 w a f A c v' G w' := by
 obtain ⟨h1, h2, h3, h4, h5⟩ := h
 have n1 : ∀ g, g < w.heap.size + 2 → some g ≠ u.ownBlock := fun g hg e => by have := (h3.lt g e.symm).1; omega
 have hb := hap.below h3 h5
 exact ⟨h1.grown hap.2.1 (n1 _ (by omega)), h2.grown hap.2.1 (n1 _ (by omega)), hap.1, h4.trans (hb.mono (by omega)), Nat.le_trans h5 hap.2.1.size⟩
theorem OwnF.lit18 {w : World} {base g t : Nat} {d : List UInt8} (hb : Blk w g 79 #[.int .u64 (t : Int), .string (txt d), .slice none 0 0]) (hg : base ≤ g) (ht : t < 18446744073709551616) : OwnF DataR 79 w base (.slice (some ⟨g, 0, none⟩) 1 1) (.cons t d .nil .nil) :=
 ⟨[.int .u64 (t : Int), .string (txt d), .slice none 0 0], ⟨rfl, .inr ⟨g, 1, _, rfl, hg, hb, Nat.le_refl _, by decide, rfl, rfl⟩⟩, ⟨rfl, ht, rfl, FV.nil _ _, trivial⟩⟩
def ItmP18 (t : Nat) (F : Fo) (w : World) (r : Ending) (w' : World) : Prop := ∃ A c, r = .returned (.agg #[.int .u64 (t : Int), .string ⟨#[]⟩, .slice A F.len c]) ∧ FV DataR w' (MineI w.heap.size w') (.slice A F.len c) F ∧ Below w.heap.size w w'
def ItemP18 (f : NdF) : Prop := ∀ (t : Nat) (a : NdD) (A : Option Addr) (c : Nat) (w : World), t < 18446744073709551616 → RowT w.heap.size w (.slice A f.len c) f → f.size ≤ 1000000 → OkD a → OkF f → okN18 (a, f) = true →
  Calls Tryz.prog 40 #[.int .u64 (t : Int), .agg (cN a (.slice A f.len c))] w (ItmP18 t (inI18 leastB a (itmF18 leastB f)) w)
theorem lit2_18 (w : World) (b d : UInt8) : Rd (w.alloc (.cells #[byteV b, byteV d] 5)) w.heap.size (.slice (some ⟨w.heap.size, 0, none⟩) 2 2) [b, d] :=
 Rd.of_blk (l := [b, d]) (Blk.new w 5 _) (by simp)
theorem byte_kind18 {k : Int} (h0 : 0 ≤ k) (h1 : k ≤ 255) : IntKind.u8.wrap k = (((UInt8.ofNat k.toNat).toNat : Nat) : Int) := by
 have : k.toNat < 256 := by omega
 rw [UInt8.toNat_ofNat', Nat.mod_eq_of_lt this, Go.IntWalk.u8_in k (by omega)]
 omega
end
end Go.Proofs.YtleidkpdpabkpaaGreatDoor
