/-
  What the document's part answers (package tollbarref05): what a string's part says. No condition but those of each theorem.
-/
import Derived.Test.YtgpcbfjakgndlaaLexRefB
namespace Go.Proofs.Ytgpcbfjakgndlaa
open Go.RowKit
set_option linter.unusedSimpArgs false

theorem str_cmp (t l : List UInt8) : ((txt t).toList == (ByteArray.mk l.toArray).toList) = decide (t = l) := by
  have e : (ByteArray.mk l.toArray) = txt l := rfl
  rw [e, txt_toList, txt_toList]
  by_cases h : t = l
  · rw [decide_eq_true h, h]; exact beq_self_eq_true _
  · rw [decide_eq_false h]; exact beq_eq_false_iff_ne.2 h

theorem sgs_get (p : Ps) (l : List It) {j : Nat} (h : j ≤ l.length) : ∃ x, (sgs p l)[j]? = some (x, advs p (l.take j)) ∧ (j < l.length → l[j]? = some x) ∧ (j = l.length → x = ([], false)) := by
  by_cases hj : j < l.length
  · exact ⟨l[j], sgs_at p l (List.getElem?_eq_getElem hj), fun _ => List.getElem?_eq_getElem hj, fun e => by omega⟩
  · have e : j = l.length := by omega
    subst e
    exact ⟨([], false), by rw [List.take_length]; exact sgs_end p l, fun h => absurd h hj, fun _ => rfl⟩
theorem drop_get {l : List It} {j : Nat} {x : It} (h : l[j]? = some x) : l.drop j = x :: l.drop (j + 1) ∧ ∀ p : Ps, advs p (l.take (j + 1)) = adv (advs p (l.take j)) x := by
  have hj := (List.getElem?_eq_some_iff.1 h).1
  have hx : l[j] = x := by rw [List.getElem?_eq_getElem hj] at h; injection h
  refine ⟨by rw [List.drop_eq_getElem_cons hj, hx], fun p => ?_⟩
  rw [List.take_succ_eq_append_getElem hj, hx, advs_app]
  rfl

/-- A part that begins with a backslash, by the characters behind it (the end among them). -/
structure PartB (l : List It) (i : Nat) (y : It) : Prop where
  quo : y.1 = [34] ∨ y.1 = [92] → partOf (advs (1, 1) (l.take i)) (l.drop i) = .part y.1 2
  nl : y.1 = [110] → partOf (advs (1, 1) (l.take i)) (l.drop i) = .part [10] 2
  tab : y.1 = [116] → partOf (advs (1, 1) (l.take i)) (l.drop i) = .part [9] 2
  bad : y.1 ≠ [34] → y.1 ≠ [92] → y.1 ≠ [110] → y.1 ≠ [116] → y.1 ≠ [120] → partOf (advs (1, 1) (l.take i)) (l.drop i) = .bad (advs (1, 1) (l.take (i + 1)))
  hex : y.1 = [120] → i + 2 ≤ l.length ∧ ∀ a, (sgs (1, 1) l)[i + 2]? = some (a, advs (1, 1) (l.take (i + 2))) →
    (digB a.1 = none → partOf (advs (1, 1) (l.take i)) (l.drop i) = .bad (advs (1, 1) (l.take (i + 2)))) ∧
    (∀ m, digB a.1 = some m → i + 3 ≤ l.length ∧ ∀ b, (sgs (1, 1) l)[i + 3]? = some (b, advs (1, 1) (l.take (i + 3))) →
      (digB b.1 = none → partOf (advs (1, 1) (l.take i)) (l.drop i) = .bad (advs (1, 1) (l.take (i + 3)))) ∧
      (∀ n, digB b.1 = some n → partOf (advs (1, 1) (l.take i)) (l.drop i) = .part [UInt8.ofNat (16 * m + n)] 4))
theorem sgs_inj {p : Ps} {l : List It} {j : Nat} {x y : It} {q : Ps} (h : (sgs p l)[j]? = some (x, q)) (hy : l[j]? = some y) : x = y := by
  have h2 := sgs_at p l hy
  rw [h] at h2
  injection h2 with h2
  exact congrArg Prod.fst h2
theorem sgs_last {p : Ps} {l : List It} {x : It} {q : Ps} (h : (sgs p l)[l.length]? = some (x, q)) : x = ([], false) := by
  have h2 := sgs_end p l
  rw [h] at h2
  injection h2 with h2
  exact congrArg Prod.fst h2
theorem dig_nil : digB [] = none := rfl
theorem partB {l : List It} {i : Nat} {x y : It} (hx : l[i]? = some x) (h1 : x.1 = [92]) (h2 : x.2 = true) (hy : (sgs (1, 1) l)[i + 1]? = some (y, advs (1, 1) (l.take (i + 1)))) : PartB l i y := by
  have hi := (List.getElem?_eq_some_iff.1 hx).1
  obtain ⟨d1, a1⟩ := drop_get hx
  have a1 := a1 (1, 1)
  rw [a1] at hy
  have n1 : ¬ (x.1 = [10] ∨ x.2 = false) := by rw [h1, h2]; simp
  by_cases hl : i + 1 < l.length
  · have hy' : l[i + 1]? = some y := by
      rw [List.getElem?_eq_getElem hl]
      rw [sgs_inj hy (List.getElem?_eq_getElem hl)]
    obtain ⟨d2, a2⟩ := drop_get hy'
    have a2 := a2 (1, 1)
    refine ⟨fun h => ?_, fun h => ?_, fun h => ?_, fun g1 g2 g3 g4 g5 => ?_, fun h => ⟨by omega, fun a ha => ?_⟩⟩
    · rcases h with h | h <;> rw [d1, d2] <;> simp [partOf, h1, h2, h]
    · rw [d1, d2]; simp [partOf, n1, h1, h2, h]
    · rw [d1, d2]; simp [partOf, n1, h1, h2, h]
    · rw [d1, d2, a1]; simp [partOf, n1, h1, h2, g1, g2, g3, g4, g5]
    · by_cases hl2 : i + 2 < l.length
      · have ha' : l[i + 2]? = some a := by rw [List.getElem?_eq_getElem hl2, sgs_inj ha (List.getElem?_eq_getElem hl2)]
        obtain ⟨d3, a3⟩ := drop_get ha'
        have a3 := a3 (1, 1)
        refine ⟨fun hn => ?_, fun m hm => ⟨by omega, fun b hb => ?_⟩⟩
        · rw [d1, d2, d3, a2, a1]; simp [partOf, n1, h1, h2, h, hn]
        · by_cases hl3 : i + 3 < l.length
          · have hb' : l[i + 3]? = some b := by rw [List.getElem?_eq_getElem hl3, sgs_inj hb (List.getElem?_eq_getElem hl3)]
            obtain ⟨d4, a4⟩ := drop_get hb'
            refine ⟨fun hn => ?_, fun n hn => ?_⟩
            · rw [d1, d2, d3, d4, a3, a2, a1]; simp [partOf, n1, h1, h2, h, hm, hn]
            · rw [d1, d2, d3, d4]; simp [partOf, n1, h1, h2, h, hm, hn]
          · have e : i + 3 = l.length := by omega
            have hbn : b = ([], false) := by rw [e] at hb; exact sgs_last hb
            have d4 : l.drop (i + 2 + 1) = [] := by rw [show i + 2 + 1 = l.length by omega, List.drop_length]
            subst hbn
            refine ⟨fun _ => ?_, fun n hn => ?_⟩
            · rw [d1, d2, d3, d4, a3, a2, a1]; simp [partOf, n1, h1, h2, h, hm]
            · rw [dig_nil] at hn; cases hn
      · have e : i + 2 = l.length := by omega
        have han : a = ([], false) := by rw [e] at ha; exact sgs_last ha
        have d3 : l.drop (i + 1 + 1) = [] := by rw [show i + 1 + 1 = l.length by omega, List.drop_length]
        subst han
        refine ⟨fun _ => ?_, fun m hm => ?_⟩
        · rw [d1, d2, d3, a2, a1]; simp [partOf, n1, h1, h2, h]
        · rw [dig_nil] at hm; cases hm
  · have e : i + 1 = l.length := by omega
    have hyn : y = ([], false) := by rw [e] at hy; exact sgs_last hy
    have d2 : l.drop (i + 1) = [] := by rw [e, List.drop_length]
    subst hyn
    refine ⟨fun h => ?_, fun h => ?_, fun h => ?_, fun _ _ _ _ _ => ?_, fun h => ?_⟩
    · simp at h
    · simp at h
    · simp at h
    · rw [d1, d2, a1]; simp [partOf, n1, h1, h2]
    · simp at h

theorem dig_lt {t : List UInt8} {m : Nat} (h : digB t = some m) : m < 16 := by
  unfold digB at h
  split at h
  · rename_i c
    have := List.idxOf?_eq_some_iff.1 h
    exact (this.1 : m < hexes.length)
  · cases h
theorem lit1L (w : World) (b : UInt8) : Rd (w.alloc (.cells #[byteV b] 5)) w.heap.size (.slice (some ⟨w.heap.size, 0, none⟩) 1 1) [b] :=
  Rd.of_blk (l := [b]) (Blk.new w 5 _) (by simp)
theorem wrapHex {m n x : Nat} (h : 16 * (m : Int) + (n : Int) = (x : Int)) (hx : x < 256) (hm : m < 16) : IntKind.u8.wrap (IntKind.i64.wrap (IntKind.i64.wrap (16 * (m : Int)) + (n : Int))) = (x : Int) := by
  rw [IntKind.wrap_u8, IntKind.wrap_i64, IntKind.wrap_i64]
  omega
theorem cell3 {w : World} {d o : Nat} {v : Value} (h : w.cell? ⟨d, o, none⟩ = some v) (hd : d < w.heap.size) (A B C : Obj) : (((w.alloc A).alloc B).alloc C).cell? ⟨d, o, none⟩ = some v := by
  have hk : (((w.alloc A).alloc B).alloc C).heap[d]? = w.heap[d]? :=
    (((Below.refl _ w).alloc (Nat.le_refl _) A).alloc (by simp) B).alloc (by simp; omega) C |>.block d hd
  exact (World.cell?_of_block (w := w) hk).trans h
def partR (q : Ps) : Pt → Value
  | .bad p => .tuple #[.string (txt []), .int .i64 0, .agg #[.int .i64 (p.1 : Int), .int .i64 (p.2 : Int)]]
  | .part t n => .tuple #[.string (txt t), .int .i64 (n : Int), .agg #[.int .i64 (q.1 : Int), .int .i64 (q.2 : Int)]]
def PartP (p : Ps) (l : List It) (w : World) (r : Ending) (w' : World) : Prop := r = .returned (partR p (partOf p l)) ∧ Below w.heap.size w w'

set_option maxRecDepth 100000 in
set_option maxHeartbeats 8000000 in
theorem rpart_any (l : List It) (hok : ∀ x ∈ l, ItOk x) (i : Nat) (hi : i ≤ l.length) (hl : l.length ≤ 100000) (w : World) (d : Nat) (v : Value) (hv : Sgs w d v (1, 1) l) :
    Calls Try.prog 20 #[v, .int .i64 (i : Int)] w (PartP (advs (1, 1) (l.take i)) (l.drop i) w) := by
  obtain ⟨A, c, rfl⟩ := RowK.shape hv
  obtain ⟨x, hat, hx1, hx2⟩ := sgs_get (1, 1) l hi
  obtain ⟨_, him, off, rfl, hdw, c0, c1, c2, c3⟩ := hv.at hat
  obtain ⟨P, hP⟩ : ∃ P, P = partOf (advs (1, 1) (l.take i)) (l.drop i) := ⟨_, rfl⟩
  obtain ⟨p, hp⟩ : ∃ p, p = advs (1, 1) (l.take i) := ⟨_, rfl⟩
  have hPB : x.1 = [92] → x.2 = true → ∃ y, i + 1 ≤ l.length ∧ (sgs (1, 1) l)[i + 1]? = some (y, advs (1, 1) (l.take (i + 1))) ∧ PartB l i y := fun h1 h2 => by
    have hlt : i < l.length := by
      rcases Nat.lt_or_ge i l.length with h | h
      · exact h
      · have := hx2 (by omega); rw [this] at h1; cases h1
    obtain ⟨y, hy, _⟩ := sgs_get (1, 1) l (show i + 1 ≤ l.length by omega)
    exact ⟨y, by omega, hy, partB (hx1 hlt) h1 h2 hy⟩
  have hPA : (x.1 = [] ∨ x.1 = [10] ∨ x.2 = false → P = .bad p) ∧ (x.1 ≠ [] → x.1 ≠ [10] → x.2 = true → x.1 ≠ [92] → P = .part x.1 1) := by
    rw [hP, hp]
    by_cases hlt : i < l.length
    · have hxx := hx1 hlt
      obtain ⟨d1, _⟩ := drop_get hxx
      have hne := (hok x (List.mem_of_getElem? hxx)).1
      rw [d1]
      refine ⟨fun h => ?_, fun g1 g2 g3 g4 => ?_⟩
      · have h' : x.1 = [10] ∨ x.2 = false := by rcases h with h | h; exact absurd h hne; exact h
        simp only [partOf, if_pos h']
      · simp [partOf, g2, g3, g4]
    · have e : i = l.length := by omega
      have hxn := hx2 e
      refine ⟨fun _ => by rw [e, List.drop_length]; rfl, fun g1 => absurd (by rw [hxn]) g1⟩
  have HG : Hid (∀ V, partR p P = V → V = partR (advs (1, 1) (l.take i)) (partOf (advs (1, 1) (l.take i)) (l.drop i))) := Lib.hid (fun V h => by rw [← h, hP, hp])
  unfold PartP
  rw [← hp] at c2 c3
  have hPB2 : x.1 = [92] → x.2 = true → ∃ y, i + 1 ≤ l.length ∧ (sgs (1, 1) l)[i + 1]? = some (y, advs (1, 1) (l.take (i + 1))) ∧ Hid (PartB l i y) := fun h1 h2 => by
    obtain ⟨y, g1, g2, g3⟩ := hPB h1 h2
    exact ⟨y, g1, g2, Lib.hid g3⟩
  have HP := Lib.hid hP
  have HPA := Lib.hid hPA
  obtain ⟨t, r⟩ := x
  simp only at c0 c1 hPB2
  clear hPB hPA hx1 hx2 hat hP hp
  have ht : (txt t).toList = t := txt_toList t
  obtain ⟨p1, p2⟩ := p
  simp only at c2 c3
  have i1 : (0 : Int) ≤ (i : Int) := by omega
  have i2 : (i : Int) < (l.length : Int) + 1 := by omega
  by_cases hE : t = []
  · subst hE
    have HV : Hid (partR (p1, p2) P = .tuple #[.string ⟨#[]⟩, .int .i64 0, .agg #[.int .i64 (p1 : Int), .int .i64 (p2 : Int)]]) := Lib.hid (by rw [HPA.out.1 (.inl rfl)]; rfl)
    clear hPB2
    go_enter Try.func20, Try.ntmps20
    go_wp2_with fail
    go_region
    all_goals go_wp2
    all_goals refine bodyPost_ret (v := .tuple #[.string ⟨#[]⟩, .int .i64 0, .agg #[.int .i64 (p1 : Int), .int .i64 (p2 : Int)]]) (by simp [results, Try.results20, go_sem]) rfl ?_
    all_goals exact ⟨by rw [HG.out _ HV.out], ((((Below.refl _ w).alloc (Nat.le_refl _) _).alloc (by simp) _).drew)⟩
  have hE' : t.isEmpty = false := by cases t with | nil => exact absurd rfl hE | cons _ _ => rfl
  by_cases h10 : t = [10]
  · subst h10
    have HV : Hid (partR (p1, p2) P = .tuple #[.string ⟨#[]⟩, .int .i64 0, .agg #[.int .i64 (p1 : Int), .int .i64 (p2 : Int)]]) := Lib.hid (by rw [HPA.out.1 (.inr (.inl rfl))]; rfl)
    clear hPB2 hE
    go_enter Try.func20, Try.ntmps20
    go_wp2_with fail
    go_region
    all_goals go_wp2
    all_goals refine bodyPost_ret (v := .tuple #[.string ⟨#[]⟩, .int .i64 0, .agg #[.int .i64 (p1 : Int), .int .i64 (p2 : Int)]]) (by simp [results, Try.results20, go_sem]) rfl ?_
    all_goals exact ⟨by rw [HG.out _ HV.out], ((((Below.refl _ w).alloc (Nat.le_refl _) _).alloc (by simp) _).drew)⟩
  have h10' : (t == [10]) = false := beq_eq_false_iff_ne.2 h10
  cases r with
  | false =>
    have HV : Hid (partR (p1, p2) P = .tuple #[.string ⟨#[]⟩, .int .i64 0, .agg #[.int .i64 (p1 : Int), .int .i64 (p2 : Int)]]) := Lib.hid (by rw [HPA.out.1 (.inr (.inr rfl))]; rfl)
    clear hPB2 hE h10
    go_enter Try.func20, Try.ntmps20
    go_wp2_with fail
    go_region
    all_goals go_wp2
    all_goals refine bodyPost_ret (v := .tuple #[.string ⟨#[]⟩, .int .i64 0, .agg #[.int .i64 (p1 : Int), .int .i64 (p2 : Int)]]) (by simp [results, Try.results20, go_sem]) rfl ?_
    all_goals exact ⟨by rw [HG.out _ HV.out], ((((Below.refl _ w).alloc (Nat.le_refl _) _).alloc (by simp) _).drew)⟩
  | true =>
    by_cases h92 : t = [92]
    · obtain ⟨y, hi1, hat1, HB⟩ := hPB2 h92 rfl
      obtain ⟨_, _, off1, e0, _, y0, y1, y2, y3⟩ := hv.at hat1
      injection e0 with e0
      injection e0 with _ e0 _
      subst e0
      subst h92
      obtain ⟨u, ub⟩ := y
      simp only at y0 HB
      have hu : (txt u).toList = u := txt_toList u
      obtain ⟨q, hq⟩ : ∃ q, q = advs (1, 1) (l.take (i + 1)) := ⟨_, rfl⟩
      rw [← hq] at y2 y3
      have HQ := Lib.hid hq
      obtain ⟨q1, q2⟩ := q
      simp only at y2 y3
      have i3 : (i : Int) + 1 < (l.length : Int) + 1 := by omega
      have i4 : (0 : Int) ≤ (i : Int) + 1 := by omega
      clear hPB2 hE h10 hat1 hq
      by_cases h34 : u = [34]
      · subst h34
        have HV : Hid (partR (p1, p2) P = .tuple #[.string (txt [34]), .int .i64 2, .agg #[.int .i64 (p1 : Int), .int .i64 (p2 : Int)]]) := Lib.hid (by rw [HP.out, HB.out.quo (.inl rfl)]; rfl)
        go_enter Try.func20, Try.ntmps20
        go_wp2_with fail
        go_region
        all_goals go_wp2
        all_goals refine bodyPost_ret (v := .tuple #[.string (txt [34]), .int .i64 2, .agg #[.int .i64 (p1 : Int), .int .i64 (p2 : Int)]]) (by simp [results, Try.results20, go_sem]) rfl ?_
        all_goals exact ⟨by rw [HG.out _ HV.out], (((((Below.refl _ w).alloc (Nat.le_refl _) _).alloc (by simp) _).alloc (by simp; omega) _).drew)⟩
      have h34' : (u == [34]) = false := beq_eq_false_iff_ne.2 h34
      by_cases h92 : u = [92]
      · subst h92
        have HV : Hid (partR (p1, p2) P = .tuple #[.string (txt [92]), .int .i64 2, .agg #[.int .i64 (p1 : Int), .int .i64 (p2 : Int)]]) := Lib.hid (by rw [HP.out, HB.out.quo (.inr rfl)]; rfl)
        go_enter Try.func20, Try.ntmps20
        go_wp2_with fail
        go_region
        all_goals go_wp2
        all_goals refine bodyPost_ret (v := .tuple #[.string (txt [92]), .int .i64 2, .agg #[.int .i64 (p1 : Int), .int .i64 (p2 : Int)]]) (by simp [results, Try.results20, go_sem]) rfl ?_
        all_goals exact ⟨by rw [HG.out _ HV.out], (((((Below.refl _ w).alloc (Nat.le_refl _) _).alloc (by simp) _).alloc (by simp; omega) _).drew)⟩
      have h92' : (u == [92]) = false := beq_eq_false_iff_ne.2 h92
      by_cases h110 : u = [110]
      · subst h110
        have HV : Hid (partR (p1, p2) P = .tuple #[.string ⟨#[10]⟩, .int .i64 2, .agg #[.int .i64 (p1 : Int), .int .i64 (p2 : Int)]]) := Lib.hid (by rw [HP.out, HB.out.nl rfl]; rfl)
        go_enter Try.func20, Try.ntmps20
        go_wp2_with fail
        go_region
        all_goals go_wp2
        all_goals refine bodyPost_ret (v := .tuple #[.string ⟨#[10]⟩, .int .i64 2, .agg #[.int .i64 (p1 : Int), .int .i64 (p2 : Int)]]) (by simp [results, Try.results20, go_sem]) rfl ?_
        all_goals exact ⟨by rw [HG.out _ HV.out], (((((Below.refl _ w).alloc (Nat.le_refl _) _).alloc (by simp) _).alloc (by simp; omega) _).drew)⟩
      have h110' : (u == [110]) = false := beq_eq_false_iff_ne.2 h110
      by_cases h116 : u = [116]
      · subst h116
        have HV : Hid (partR (p1, p2) P = .tuple #[.string ⟨#[9]⟩, .int .i64 2, .agg #[.int .i64 (p1 : Int), .int .i64 (p2 : Int)]]) := Lib.hid (by rw [HP.out, HB.out.tab rfl]; rfl)
        go_enter Try.func20, Try.ntmps20
        go_wp2_with fail
        go_region
        all_goals go_wp2
        all_goals refine bodyPost_ret (v := .tuple #[.string ⟨#[9]⟩, .int .i64 2, .agg #[.int .i64 (p1 : Int), .int .i64 (p2 : Int)]]) (by simp [results, Try.results20, go_sem]) rfl ?_
        all_goals exact ⟨by rw [HG.out _ HV.out], (((((Below.refl _ w).alloc (Nat.le_refl _) _).alloc (by simp) _).alloc (by simp; omega) _).drew)⟩
      have h116' : (u == [116]) = false := beq_eq_false_iff_ne.2 h116
      by_cases h120 : u = [120]
      · subst h120
        obtain ⟨hi2, HX⟩ := HB.out.hex rfl
        obtain ⟨a, hata, _⟩ := sgs_get (1, 1) l hi2
        have HXa := HX a hata
        obtain ⟨_, _, off2, e0, _, a0, _, a2, a3⟩ := hv.at hata
        injection e0 with e0
        injection e0 with _ e0 _
        subst e0
        obtain ⟨z, hz⟩ : ∃ z, z = advs (1, 1) (l.take (i + 2)) := ⟨_, rfl⟩
        rw [← hz] at a2 a3
        have HZ := Lib.hid hz
        obtain ⟨z1, z2⟩ := z
        obtain ⟨s, sb⟩ := a
        simp only at a0 a2 a3 HXa
        have i5 : (i : Int) + 2 < (l.length : Int) + 1 := by omega
        have i6 : (0 : Int) ≤ (i : Int) + 2 := by omega
        clear HX hata hz
        have a0' : (((w.alloc (.cells #[.int .i64 0, .int .i64 0] 26)).alloc (.cells #[.string (txt [92]), .bool true, .int .i64 (p1 : Int), .int .i64 (p2 : Int)] 48)).alloc (.cells #[.string (txt [120]), .bool ub, .int .i64 (q1 : Int), .int .i64 (q2 : Int)] 48)).cell? ⟨d, off + (i + 2) * 4, none⟩ = some (.string (txt s)) := cell3 a0 hdw _ _ _
        have a2' : (((w.alloc (.cells #[.int .i64 0, .int .i64 0] 26)).alloc (.cells #[.string (txt [92]), .bool true, .int .i64 (p1 : Int), .int .i64 (p2 : Int)] 48)).alloc (.cells #[.string (txt [120]), .bool ub, .int .i64 (q1 : Int), .int .i64 (q2 : Int)] 48)).cell? ⟨d, off + (i + 2) * 4 + 2, none⟩ = some (.int .i64 (z1 : Int)) := cell3 a2 hdw _ _ _
        have a3' : (((w.alloc (.cells #[.int .i64 0, .int .i64 0] 26)).alloc (.cells #[.string (txt [92]), .bool true, .int .i64 (p1 : Int), .int .i64 (p2 : Int)] 48)).alloc (.cells #[.string (txt [120]), .bool ub, .int .i64 (q1 : Int), .int .i64 (q2 : Int)] 48)).cell? ⟨d, off + (i + 2) * 4 + 3, none⟩ = some (.int .i64 (z2 : Int)) := cell3 a3 hdw _ _ _
        cases hds : digB s with
        | none =>
          have D1 : ∀ W, Hid (Calls Try.prog 31 #[.string (txt s)] W fun r w' => r = .returned (.int .i64 (-1)) ∧ W = w') := fun W => Lib.hid (by
            have h := rdigit_any s W
            unfold digI at h
            rw [hds] at h
            exact h)
          have HV : Hid (partR (p1, p2) P = .tuple #[.string ⟨#[]⟩, .int .i64 0, .agg #[.int .i64 (z1 : Int), .int .i64 (z2 : Int)]]) := Lib.hid (by rw [HP.out, HXa.1 hds, ← HZ.out]; rfl)
          clear HXa
          go_enter Try.func20, Try.ntmps20
          go_wp2_with fail
          refine ((D1 _).out).mono ?_
          rintro r' w' ⟨rfl, rfl⟩
          go_wp2_with fail
          go_region
          all_goals go_wp2
          all_goals refine bodyPost_ret (v := .tuple #[.string ⟨#[]⟩, .int .i64 0, .agg #[.int .i64 (z1 : Int), .int .i64 (z2 : Int)]]) (by simp [results, Try.results20, go_sem]) rfl ?_
          all_goals exact ⟨by rw [HG.out _ HV.out], (((((Below.refl _ w).alloc (Nat.le_refl _) _).alloc (by simp) _).alloc (by simp; omega) _).drew)⟩
        | some m =>
          obtain ⟨hi3, HY⟩ := HXa.2 m hds
          obtain ⟨b, hatb, _⟩ := sgs_get (1, 1) l hi3
          have HYb := HY b hatb
          obtain ⟨_, _, off3, e0, _, b0, _, b2, b3⟩ := hv.at hatb
          injection e0 with e0
          injection e0 with _ e0 _
          subst e0
          obtain ⟨y, hy⟩ : ∃ y, y = advs (1, 1) (l.take (i + 3)) := ⟨_, rfl⟩
          rw [← hy] at b2 b3
          have HYY := Lib.hid hy
          obtain ⟨f1, f2⟩ := y
          obtain ⟨e, eb⟩ := b
          simp only at b0 b2 b3 HYb
          have hm16 : m < 16 := by
            have h := dig_lt hds
            exact h
          have D1 : ∀ W, Hid (Calls Try.prog 31 #[.string (txt s)] W fun r w' => r = .returned (.int .i64 (m : Int)) ∧ W = w') := fun W => Lib.hid (by
            have h := rdigit_any s W
            unfold digI at h
            rw [hds] at h
            exact h)
          have i7 : (i : Int) + 3 < (l.length : Int) + 1 := by omega
          have i8 : (0 : Int) ≤ (i : Int) + 3 := by omega
          have i9 : ¬ (m : Int) < 0 := by omega
          clear HXa HY hatb hy
          have b0' : (((w.alloc (.cells #[.int .i64 0, .int .i64 0] 26)).alloc (.cells #[.string (txt [92]), .bool true, .int .i64 (p1 : Int), .int .i64 (p2 : Int)] 48)).alloc (.cells #[.string (txt [120]), .bool ub, .int .i64 (q1 : Int), .int .i64 (q2 : Int)] 48)).cell? ⟨d, off + (i + 3) * 4, none⟩ = some (.string (txt e)) := cell3 b0 hdw _ _ _
          have b2' : (((w.alloc (.cells #[.int .i64 0, .int .i64 0] 26)).alloc (.cells #[.string (txt [92]), .bool true, .int .i64 (p1 : Int), .int .i64 (p2 : Int)] 48)).alloc (.cells #[.string (txt [120]), .bool ub, .int .i64 (q1 : Int), .int .i64 (q2 : Int)] 48)).cell? ⟨d, off + (i + 3) * 4 + 2, none⟩ = some (.int .i64 (f1 : Int)) := cell3 b2 hdw _ _ _
          have b3' : (((w.alloc (.cells #[.int .i64 0, .int .i64 0] 26)).alloc (.cells #[.string (txt [92]), .bool true, .int .i64 (p1 : Int), .int .i64 (p2 : Int)] 48)).alloc (.cells #[.string (txt [120]), .bool ub, .int .i64 (q1 : Int), .int .i64 (q2 : Int)] 48)).cell? ⟨d, off + (i + 3) * 4 + 3, none⟩ = some (.int .i64 (f2 : Int)) := cell3 b3 hdw _ _ _
          cases hde : digB e with
          | none =>
            have D2 : ∀ W, Hid (Calls Try.prog 31 #[.string (txt e)] W fun r w' => r = .returned (.int .i64 (-1)) ∧ W = w') := fun W => Lib.hid (by
              have h := rdigit_any e W
              unfold digI at h
              rw [hde] at h
              exact h)
            have HV : Hid (partR (p1, p2) P = .tuple #[.string ⟨#[]⟩, .int .i64 0, .agg #[.int .i64 (f1 : Int), .int .i64 (f2 : Int)]]) := Lib.hid (by rw [HP.out, HYb.1 hde, ← HYY.out]; rfl)
            clear HYb
            go_enter Try.func20, Try.ntmps20
            go_wp2_with fail
            refine ((D1 _).out).mono ?_
            rintro r' w' ⟨rfl, rfl⟩
            go_wp2_with fail
            refine ((D2 _).out).mono ?_
            rintro r' w' ⟨rfl, rfl⟩
            go_wp2_with fail
            go_region
            all_goals go_wp2
            all_goals refine bodyPost_ret (v := .tuple #[.string ⟨#[]⟩, .int .i64 0, .agg #[.int .i64 (f1 : Int), .int .i64 (f2 : Int)]]) (by simp [results, Try.results20, go_sem]) rfl ?_
            all_goals exact ⟨by rw [HG.out _ HV.out], (((((Below.refl _ w).alloc (Nat.le_refl _) _).alloc (by simp) _).alloc (by simp; omega) _).drew)⟩
          | some n =>
            have hn16 : n < 16 := dig_lt hde
            have D2 : ∀ W, Hid (Calls Try.prog 31 #[.string (txt e)] W fun r w' => r = .returned (.int .i64 (n : Int)) ∧ W = w') := fun W => Lib.hid (by
              have h := rdigit_any e W
              unfold digI at h
              rw [hde] at h
              exact h)
            have i10 : ¬ (n : Int) < 0 := by omega
            have HV : Hid (partR (p1, p2) P = .tuple #[.string (txt [UInt8.ofNat (16 * m + n)]), .int .i64 4, .agg #[.int .i64 (p1 : Int), .int .i64 (p2 : Int)]]) := Lib.hid (by rw [HP.out, HYb.2 n hde]; rfl)
            obtain ⟨by_, hby⟩ : ∃ b, b = UInt8.ofNat (16 * m + n) := ⟨_, rfl⟩
            have hbn : 16 * (m : Int) + (n : Int) = (by_.toNat : Int) := by rw [hby, ofNat_toNat]; omega
            have hb8 := UInt8.toNat_lt by_
            rw [← hby] at HV
            clear HYb hby
            have hst : (convert 53 9 (.slice (some ⟨w.heap.size + 1 + 1 + 1, 0, none⟩) 1 1)).run Try.prog ((((w.alloc (.cells #[.int .i64 0, .int .i64 0] 26)).alloc (.cells #[.string (txt [92]), .bool true, .int .i64 (p1 : Int), .int .i64 (p2 : Int)] 48)).alloc (.cells #[.string (txt [120]), .bool ub, .int .i64 (q1 : Int), .int .i64 (q2 : Int)] 48)).alloc (.cells #[.int .u8 (by_.toNat : Int)] 5)).drew = .ok (.string (txt [by_])) ((((w.alloc (.cells #[.int .i64 0, .int .i64 0] 26)).alloc (.cells #[.string (txt [92]), .bool true, .int .i64 (p1 : Int), .int .i64 (p2 : Int)] 48)).alloc (.cells #[.string (txt [120]), .bool ub, .int .i64 (q1 : Int), .int .i64 (q2 : Int)] 48)).alloc (.cells #[.int .u8 (by_.toNat : Int)] 5)).drew := by
              have hb : byteV by_ = .int .u8 (by_.toNat : Int) := rfl
              rw [← hb]
              have e : (((w.alloc (.cells #[.int .i64 0, .int .i64 0] 26)).alloc (.cells #[.string (txt [92]), .bool true, .int .i64 (p1 : Int), .int .i64 (p2 : Int)] 48)).alloc (.cells #[.string (txt [120]), .bool ub, .int .i64 (q1 : Int), .int .i64 (q2 : Int)] 48)).heap.size = w.heap.size + 1 + 1 + 1 := by simp
              have h := lit1L (((w.alloc (.cells #[.int .i64 0, .int .i64 0] 26)).alloc (.cells #[.string (txt [92]), .bool true, .int .i64 (p1 : Int), .int .i64 (p2 : Int)] 48)).alloc (.cells #[.string (txt [120]), .bool ub, .int .i64 (q1 : Int), .int .i64 (q2 : Int)] 48)) by_
              rw [e] at h
              exact str_of (Rd.heap h rfl)
            have i11 : IntKind.u8.wrap (IntKind.i64.wrap (IntKind.i64.wrap (16 * (m : Int)) + (n : Int))) = (by_.toNat : Int) := wrapHex hbn hb8 hm16
            go_enter Try.func20, Try.ntmps20
            go_wp2_with fail
            refine ((D1 _).out).mono ?_
            rintro r' w' ⟨rfl, rfl⟩
            go_wp2_with fail
            refine ((D2 _).out).mono ?_
            rintro r' w' ⟨rfl, rfl⟩
            go_wp2_with fail
            go_region
            all_goals go_wp2
            all_goals refine bodyPost_ret (v := .tuple #[.string (txt [by_]), .int .i64 4, .agg #[.int .i64 (p1 : Int), .int .i64 (p2 : Int)]]) (by simp [results, Try.results20, go_sem]) rfl ?_
            all_goals exact ⟨by rw [HG.out _ HV.out], ((((((Below.refl _ w).alloc (Nat.le_refl _) _).alloc (by simp) _).alloc (by simp; omega) _).alloc (by simp; omega) _).drew)⟩
      · have h120' : (u == [120]) = false := beq_eq_false_iff_ne.2 h120
        have HV : Hid (partR (p1, p2) P = .tuple #[.string ⟨#[]⟩, .int .i64 0, .agg #[.int .i64 (q1 : Int), .int .i64 (q2 : Int)]]) := Lib.hid (by rw [HP.out, HB.out.bad h34 h92 h110 h116 h120, ← HQ.out]; rfl)
        clear h34 h92 h110 h116 h120
        go_enter Try.func20, Try.ntmps20
        go_wp2_with fail
        go_region
        all_goals go_wp2
        all_goals refine bodyPost_ret (v := .tuple #[.string ⟨#[]⟩, .int .i64 0, .agg #[.int .i64 (q1 : Int), .int .i64 (q2 : Int)]]) (by simp [results, Try.results20, go_sem]) rfl ?_
        all_goals exact ⟨by rw [HG.out _ HV.out], (((((Below.refl _ w).alloc (Nat.le_refl _) _).alloc (by simp) _).alloc (by simp; omega) _).drew)⟩
    · have h92' : (t == [92]) = false := beq_eq_false_iff_ne.2 h92
      have HV : Hid (partR (p1, p2) P = .tuple #[.string (txt t), .int .i64 1, .agg #[.int .i64 (p1 : Int), .int .i64 (p2 : Int)]]) := Lib.hid (by rw [HPA.out.2 hE h10 rfl h92]; rfl)
      clear hPB2 hE h10 h92
      go_enter Try.func20, Try.ntmps20
      go_wp2_with fail
      go_region
      all_goals go_wp2
      all_goals refine bodyPost_ret (v := .tuple #[.string (txt t), .int .i64 1, .agg #[.int .i64 (p1 : Int), .int .i64 (p2 : Int)]]) (by simp [results, Try.results20, go_sem]) rfl ?_
      all_goals exact ⟨by rw [HG.out _ HV.out], ((((Below.refl _ w).alloc (Nat.le_refl _) _).alloc (by simp) _).drew)⟩

end Go.Proofs.Ytgpcbfjakgndlaa
