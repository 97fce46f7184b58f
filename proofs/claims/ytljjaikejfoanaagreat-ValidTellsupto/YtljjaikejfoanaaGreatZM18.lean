/- What ValidTells stands on: StvIdt, VadVal. -/
import Derived.Test.YtljjaikejfoanaaGreatZM0
import Derived.Test.YtljjaikejfoanaaGreatZM3
import Derived.Test.YtljjaikejfoanaaGreatZM4
import Derived.Test.YtljjaikejfoanaaGreatZM14
set_option linter.unusedSimpArgs false
set_option linter.unusedVariables false
namespace Go.Proofs.YtljjaikejfoanaaGreat
open Go.RowKit
def SmP (c : UInt8) (w : World) (r : Ending) (w' : World) : Prop := r = .returned (.bool (smB c)) ∧ w = w'
theorem letter_any (c : UInt8) (w : World) : Calls Tryz.prog 91 #[.int .u8 (c.toNat : Int)] w (SmP c w) := by
  rcases sm_cases c with ⟨hb, g1, g2⟩ | ⟨hb, g⟩
  · have HB := Lib.hid hb
    clear hb
    obtain ⟨m, hm⟩ : ∃ m, m = c.toNat := ⟨_, rfl⟩
    rw [← hm] at g1 g2 ⊢
    clear hm
    go_enter Tryz.func91, Tryz.ntmps91
    go_wp2
    go_ret
    exact ⟨by rw [HB.out]; rfl, rfl⟩
  · have HB := Lib.hid hb
    clear hb
    obtain ⟨m, hm⟩ : ∃ m, m = c.toNat := ⟨_, rfl⟩
    rw [← hm] at g ⊢
    clear hm
    rcases g with g | ⟨g1, g2⟩
    all_goals
      go_enter Tryz.func91, Tryz.ntmps91
      go_wp2
      go_ret
      exact ⟨by rw [HB.out]; rfl, rfl⟩
theorem nm_ways (c : UInt8) (h : smB c = false) : (nmB c = true ∧ ((48 ≤ (c.toNat : Int) ∧ (c.toNat : Int) ≤ 57) ∨ (¬ 48 ≤ (c.toNat : Int) ∧ ((c.toNat : Int) == 45) = true))) ∨
    (nmB c = false ∧ ((c.toNat : Int) == 45) = false ∧ (¬ 48 ≤ (c.toNat : Int) ∨ (48 ≤ (c.toNat : Int) ∧ ¬ (c.toNat : Int) ≤ 57))) := by
  rcases nm_cases h with ⟨h1, h2⟩ | ⟨h1, h2, h3⟩
  · refine .inl ⟨h1, ?_⟩
    rcases h2 with h2 | ⟨h2, h3, h4⟩
    · have : (c.toNat : Int) = 45 := beq_iff_eq.1 h2
      exact .inr ⟨by omega, h2⟩
    · exact .inl ⟨by omega, by omega⟩
  · refine .inr ⟨h1, h2, ?_⟩
    rcases h3 with h3 | ⟨h3, h4⟩
    · exact .inl (by omega)
    · exact .inr ⟨by omega, by omega⟩
def NmP (c : UInt8) (w : World) (r : Ending) (w' : World) : Prop := r = .returned (.bool (nmB c)) ∧ w = w'
set_option maxHeartbeats 1000000 in
theorem inName_any (c : UInt8) (w : World) : Calls Tryz.prog 92 #[.int .u8 (c.toNat : Int)] w (NmP c w) := by
  have HL := Lib.hid (letter_any c w)
  cases hb : smB c with
  | true =>
    have HN := Lib.hid (sm_nm hb)
    have HS := Lib.hid hb
    clear hb
    go_enter Tryz.func92, Tryz.ntmps92
    go_wp2_with fail
    refine HL.out.mono ?_
    rintro r w1 ⟨rfl, rfl⟩
    rw [HS.out]
    clear HL
    go_wp2
    go_ret
    exact ⟨by rw [HN.out]; rfl, rfl⟩
  | false =>
    have HS := Lib.hid hb
    have g := nm_ways c hb
    clear hb
    have HL : Hid (Calls Tryz.prog 91 #[.int .u8 (c.toNat : Int)] w fun r w' => r = .returned (.bool false) ∧ w = w') := Lib.hid (HL.out.mono fun r w' h => ⟨by rw [h.1, HS.out], h.2⟩)
    have HQ : Hid (∀ b, nmB c = b → NmP c w (.returned (.bool b)) w) := Lib.hid (fun b e => ⟨by rw [e], rfl⟩)
    rcases g with ⟨h1, g⟩ | ⟨h1, g0, g⟩
    · have HN := Lib.hid h1
      clear h1 HS
      generalize c.toNat = m at g HL
      rcases g with ⟨g1, g2⟩ | ⟨g1, g2⟩
      all_goals
        go_enter Tryz.func92, Tryz.ntmps92
        go_wp2_with fail
        refine HL.out.mono ?_
        rintro r w1 ⟨rfl, rfl⟩
        clear HL
        go_wp2
        go_ret
        exact HQ.out _ HN.out
    · have HN := Lib.hid h1
      clear h1 HS
      generalize c.toNat = m at g g0 HL
      rcases g with g1 | ⟨g1, g2⟩
      · go_enter Tryz.func92, Tryz.ntmps92
        go_wp2_with fail
        refine HL.out.mono ?_
        rintro r w1 ⟨rfl, rfl⟩
        clear HL
        go_wp2
        go_ret
        exact HQ.out _ HN.out
      · go_enter Tryz.func92, Tryz.ntmps92
        go_wp2_with fail
        refine HL.out.mono ?_
        rintro r w1 ⟨rfl, rfl⟩
        clear HL
        go_wp2
        go_ret
        exact HQ.out _ (HN.out.trans (decide_eq_false (by omega)).symm)
def IdentP (s : List UInt8) (w : World) (r : Ending) (w' : World) : Prop := r = .returned (.bool (identX s)) ∧ w = w'
def nmL (s : List UInt8) (k : Nat) : Prop := ∀ j c, j < k → s[j]? = some c → nmB c = true
theorem nmL_step {s : List UInt8} {k : Nat} {c : UInt8} (hc : s[k]? = some c) (h : nmL s k) (h1 : nmB c = true) : nmL s (k + 1) := by
  intro j d hj hd
  by_cases e : j = k
  · subst e
    rw [hc] at hd
    injection hd with hd
    rw [← hd]; exact h1
  · exact h j d (by omega) hd
theorem nmL_all {c : UInt8} {r : List UInt8} (h1 : smB c = true) (h2 : (c :: r).length ≤ 12) (h : nmL (c :: r) (c :: r).length) : identX (c :: r) = true := by
  rw [idL_all ⟨fun d _ hd => by simp at hd; rw [← hd]; exact h1, h⟩]
  simp
  simpa using h2
theorem ident_bad {s : List UInt8} {k : Nat} {c : UInt8} (hc : s[k]? = some c) (h : nmB c = false) : identX s = false :=
  id_bad hc (by cases hb : smB c with | false => rfl | true => rw [sm_nm hb] at h; cases h) (.inr h)
set_option maxRecDepth 100000 in
set_option maxHeartbeats 2000000 in
theorem ident_any (s : List UInt8) (hs : s.length ≤ 1048576) (w : World) : Calls Tryz.prog 82 #[.string (txt s)] w (IdentP s w) := by
  cases s with
  | nil =>
    have e0 : txt [] = (⟨#[]⟩ : ByteArray) := rfl
    rw [e0]
    go_enter Tryz.func82, Tryz.ntmps82
    go_wp2
    go_ret
    exact ⟨rfl, rfl⟩
  | cons c r =>
  have hsz := txt_size (c :: r)
  have ts : (txt (c :: r)).toList = c :: r := txt_toList _
  have hE : (c :: r).isEmpty = false := rfl
  have hN : ((c :: r) == []) = false := rfl
  by_cases h12 : (c :: r).length ≤ 12
  · have i12 : ¬ ((12 : Int) < ((c :: r).length : Int)) := by omega
    have hin : 0 < (txt (c :: r)).size := by rw [hsz]; simp
    have hix : (((txt (c :: r))[0]'hin).toNat : Int) = (c.toNat : Int) := by rw [txt_get (c :: r) 0 (by simp) hin]; rfl
    have HL := Lib.hid (letter_any c w)
    cases hb : smB c with
    | false =>
      have HV : Hid (identX (c :: r) = false) := Lib.hid (ident_no hb r)
      have HS := Lib.hid hb
      clear hb
      generalize c :: r = s at *
      go_enter Tryz.func82, Tryz.ntmps82
      go_wp2_with fail
      refine HL.out.mono ?_
      rintro e w1 ⟨rfl, rfl⟩
      rw [HS.out]
      clear HL
      go_wp2
      go_ret
      exact ⟨by rw [HV.out]; rfl, rfl⟩
    | true =>
      have HV : Hid (nmL (c :: r) (c :: r).length → identX (c :: r) = true) := Lib.hid (fun h => nmL_all hb h12 h)
      have HS := Lib.hid hb
      clear hb
      have hpos : 0 < (c :: r).length := by simp
      generalize c :: r = s at *
      go_enter Tryz.func82, Tryz.ntmps82
      go_wp2_with fail
      refine HL.out.mono ?_
      rintro e w1 ⟨rfl, rfl⟩
      rw [HS.out]
      clear HL hix
      go_wp2
      go_loop [3, 19] (fun v i => ∃ k : Nat, k ≤ s.length ∧ i = .int .i64 (k : Int) ∧ Hid (nmL s k)) (fun _ i => s.length - (intOf i).toNat)
      case atStart => exact ⟨0, by omega, rfl, Lib.hid (fun j c h => by omega)⟩
      case round =>
        obtain ⟨k, hk, rfl, HK⟩ := hrel
        by_cases h1 : k < s.length
        · have d1 : (k : Int) < (s.length : Int) := by omega
          obtain ⟨d, hd⟩ : ∃ d, s[k]? = some d := ⟨_, List.getElem?_eq_getElem h1⟩
          have hink : k < (txt s).size := by rw [hsz]; exact h1
          have hixk : (((txt s)[k]'hink).toNat : Int) = (d.toNat : Int) := by rw [txt_get s k h1 hink]; rw [List.getElem?_eq_getElem h1] at hd; injection hd with hd; rw [hd]
          have HN := Lib.hid (inName_any d w)
          cases hn : nmB d with
          | true =>
            have HK2 := Lib.hid (nmL_step hd HK.out hn)
            have HN2 := Lib.hid hn
            clear hd hn HK
            go_wp2_with fail
            refine HN.out.mono ?_
            rintro e w1 ⟨rfl, rfl⟩
            rw [HN2.out]
            clear HN
            go_wp2
            go_round
            case rel => exact ⟨k + 1, by omega, by go_num, HK2⟩
            case measure => simp [intOf]; omega
          | false =>
            have HF : Hid (identX s = false) := Lib.hid (ident_bad hd hn)
            have HN2 := Lib.hid hn
            clear hd hn HK
            go_wp2_with fail
            refine HN.out.mono ?_
            rintro e w1 ⟨rfl, rfl⟩
            rw [HN2.out]
            clear HN
            go_wp2
            go_ret
            exact ⟨by rw [HF.out]; rfl, rfl⟩
        · obtain rfl : k = s.length := by omega
          have HF : Hid (identX s = true) := Lib.hid (HV.out HK.out)
          clear HK h1
          go_wp2
          go_ret
          exact ⟨by rw [HF.out]; rfl, rfl⟩
  · have i12 : (12 : Int) < ((c :: r).length : Int) := by omega
    have HV : Hid (identX (c :: r) = false) := Lib.hid (by
      cases h : identX (c :: r) with
      | false => rfl
      | true => exact absurd (ident_len h).2 h12)
    clear h12
    generalize c :: r = s at *
    go_enter Tryz.func82, Tryz.ntmps82
    go_wp2
    go_ret
    exact ⟨by rw [HV.out]; rfl, rfl⟩
end Go.Proofs.YtljjaikejfoanaaGreat
namespace Go.Proofs.YtljjaikejfoanaaGreat
open Go.RowKit
theorem sindex_any (l : List (List UInt8)) (s : List UInt8) (d : Nat) (A : Option Addr) (c : Nat) (w : World) (hv : Vals w d (.slice A l.length c) (txts l)) (hl : l.length ≤ 1000000) :
    Calls Tryz.prog 140 #[.slice A l.length c, .string (txt s)] w (fun r w' => r = .returned (.int .i64 (whichI l s)) ∧ w = w') := by
  have HV := Lib.hid hv
  have ts : (txt s).toList = s := txt_toList s
  clear hv
  go_enter Tryz.func140, Tryz.ntmps140
  go_wp2
  go_loop [8] (fun i => ∃ k : Nat, k ≤ l.length ∧ i = .int .i64 (k : Int) ∧ Hid (∀ (j : Nat) (y : List UInt8), j < k → l[j]? = some y → y ≠ s)) (fun i => l.length - (intOf i).toNat)
  case atStart => exact ⟨0, Nat.zero_le _, rfl, Lib.hid (fun j y h => by omega)⟩
  case round =>
    obtain ⟨k, hk, rfl, HL⟩ := hrel
    by_cases hlt : k < l.length
    · obtain ⟨n, hn⟩ : ∃ n, l[k]? = some n := ⟨_, List.getElem?_eq_getElem hlt⟩
      obtain ⟨o, rfl, -, -, -, hcn⟩ := HV.out.at (txts_at hn)
      have i1 : (0 : Int) ≤ (k : Int) := by omega
      have i2 : (k : Int) < (l.length : Int) := by omega
      have tn : (txt n).toList = n := txt_toList n
      have HG := Lib.hid hn
      clear hn
      by_cases e : n = s
      · have h1 : (n == s) = true := beq_iff_eq.2 e
        have h1' : (s == n) = true := beq_iff_eq.2 e.symm
        have HF : Hid (whichI l s = (k : Int)) := Lib.hid (by unfold whichI; rw [which_is (e ▸ HG.out) HL.out])
        clear e
        go_wp2
        go_ret
        exact ⟨by rw [HF.out]; rfl, rfl⟩
      · have h1 : (n == s) = false := beq_eq_false_iff_ne.2 e
        have h1' : (s == n) = false := beq_eq_false_iff_ne.2 (fun h => e h.symm)
        have HL2 : Hid (∀ (j : Nat) (y : List UInt8), j < k + 1 → l[j]? = some y → y ≠ s) := Lib.hid (fun j y hj hy => by
          by_cases ej : j = k
          · subst ej; rw [HG.out] at hy; injection hy with hy; subst hy; exact e
          · exact HL.out j y (by omega) hy)
        clear e
        go_wp2
        go_round
        case rel => exact ⟨k + 1, by omega, by go_num, HL2⟩
        case measure => simp [intOf]; omega
    · have HF : Hid (whichI l s = -1) := Lib.hid (by unfold whichI; rw [which_no (fun j y hy => HL.out j y (by have := (List.getElem?_eq_some_iff.1 hy).1; omega) hy)])
      have i2 : ¬ (k : Int) < (l.length : Int) := by omega
      go_wp2
      go_ret
      exact ⟨by rw [HF.out]; rfl, rfl⟩
theorem which_bool (l : List (List UInt8)) (s : List UInt8) : decide (0 ≤ whichI l s) = (whichX l s).isSome := by
  unfold whichI
  cases whichX l s with
  | none => rfl
  | some i => simp
theorem scontains_any (l : List (List UInt8)) (s : List UInt8) (d : Nat) (A : Option Addr) (c : Nat) (w : World) (hv : Vals w d (.slice A l.length c) (txts l)) (hl : l.length ≤ 1000000) :
    Calls Tryz.prog 139 #[.slice A l.length c, .string (txt s)] w (fun r w' => r = .returned (.bool (whichX l s).isSome) ∧ w = w') := by
  have HC := Lib.hid (sindex_any l s d A c w hv hl)
  have HB := Lib.hid (which_bool l s)
  obtain ⟨z, hz⟩ : ∃ z, z = whichI l s := ⟨_, rfl⟩
  rw [← hz] at HC HB
  clear hv hl hz
  go_enter Tryz.func139, Tryz.ntmps139
  go_wp2_with fail
  refine HC.out.mono ?_
  rintro r w2 ⟨rfl, rfl⟩
  go_wp2
  go_ret
  exact ⟨congrArg (fun b => Ending.returned (Value.bool b)) HB.out, rfl⟩
def NumB (lo hi vn : Nat) (vt : List UInt8) : Bool := decide (lo ≤ vn) && decide (vn ≤ hi) && decide (vt = [])
set_option maxRecDepth 100000 in
set_option maxHeartbeats 1000000 in
theorem numright_any (lo hi : Nat) (vk : Int) (vn : Nat) (vt : List UInt8) (w : World) (hn : vn < 18446744073709551616) :
    Calls Tryz.prog 125 #[.agg #[.int .u64 (lo : Int), .int .u64 (hi : Int)], .agg #[.int .i64 vk, .int .u64 (vn : Int), .string (txt vt)]] w (AnsP (.bool (NumB lo hi vn vt)) w) := by
  have HB : Hid (Below w.heap.size w ((w.alloc (.cells #[.int .u64 (lo : Int), .int .u64 (hi : Int)] 140)).alloc (.cells #[.int .i64 vk, .int .u64 (vn : Int), .string (txt vt)] 24))) := Lib.hid (((Below.refl _ _).alloc (Nat.le_refl _) _).alloc (by simp) _)
  have tt : (txt vt).toList = vt := txt_toList vt
  by_cases h1 : lo ≤ vn
  · have g1 : (lo : Int) ≤ (vn : Int) := by omega
    have g2 : decide (lo ≤ vn) = true := decide_eq_true h1
    by_cases h3 : vn ≤ hi
    · have g3 : (vn : Int) ≤ (hi : Int) := by omega
      have g4 : decide (vn ≤ hi) = true := decide_eq_true h3
      by_cases h5 : vt = []
      · have HN : Hid (NumB lo hi vn vt = true) := Lib.hid (by unfold NumB; simp [h1, h3, h5])
        have g5 : (txt vt).toList.isEmpty = true := by rw [h5, txt_toList]; rfl
        have g5b : (!(txt vt).toList.isEmpty) = false := by rw [g5]; rfl
        have g6 : (vt == []) = true := by rw [h5]; rfl
        clear h1 h3 h5
        go_enter Tryz.func125, Tryz.ntmps125
        go_wp2
        go_ret
        exact ⟨by rw [HN.out]; rfl, HB.out⟩
      · have HN : Hid (NumB lo hi vn vt = false) := Lib.hid (by unfold NumB; simp [h5])
        have g5 : (txt vt).toList.isEmpty = false := by rw [txt_toList]; simpa using h5
        have g6 : (vt == []) = false := beq_eq_false_iff_ne.2 h5
        clear h1 h3 h5
        go_enter Tryz.func125, Tryz.ntmps125
        go_wp2
        go_ret
        exact ⟨by rw [HN.out]; rfl, HB.out⟩
    · have HN : Hid (NumB lo hi vn vt = false) := Lib.hid (by unfold NumB; simp [h3])
      have g3 : ¬ (vn : Int) ≤ (hi : Int) := by omega
      have g4 : decide (vn ≤ hi) = false := decide_eq_false h3
      clear h1 h3
      go_enter Tryz.func125, Tryz.ntmps125
      go_wp2
      go_ret
      exact ⟨by rw [HN.out]; rfl, HB.out⟩
  · have HN : Hid (NumB lo hi vn vt = false) := Lib.hid (by unfold NumB; simp [h1])
    have g1 : ¬ (lo : Int) ≤ (vn : Int) := by omega
    have g2 : decide (lo ≤ vn) = false := decide_eq_false h1
    clear h1
    go_enter Tryz.func125, Tryz.ntmps125
    go_wp2
    go_ret
    exact ⟨by rw [HN.out]; rfl, HB.out⟩
set_option maxRecDepth 100000 in
set_option maxHeartbeats 1000000 in
theorem choiceright_any (ns : List (List UInt8)) (d : Nat) (A : Option Addr) (c : Nat) (vk : Int) (vn : Nat) (vt : List UInt8) (w : World) (hv : Vals w d (.slice A ns.length c) (txts ns)) (hl : ns.length ≤ 1000000) :
    Calls Tryz.prog 136 #[.agg #[.slice A ns.length c], .agg #[.int .i64 vk, .int .u64 (vn : Int), .string (txt vt)]] w (AnsP (.bool (decide (vn = 0) && (whichX ns vt).isSome)) w) := by
  have hb : Below w.heap.size w ((w.alloc (.cells #[.slice A ns.length c] 146)).alloc (.cells #[.int .i64 vk, .int .u64 (vn : Int), .string (txt vt)] 24)) := ((Below.refl _ _).alloc (Nat.le_refl _) _).alloc (by simp) _
  have HB := Lib.hid hb
  have HC := Lib.hid (scontains_any ns vt d A c ((w.alloc (.cells #[.slice A ns.length c] 146)).alloc (.cells #[.int .i64 vk, .int .u64 (vn : Int), .string (txt vt)] 24)) (hv.heap (fun h0 => hb.block d (by obtain ⟨A', c', _, _, h2⟩ := hv; exact (h2 h0).1))) hl)
  obtain ⟨z, hz⟩ : ∃ z, z = (whichX ns vt).isSome := ⟨_, rfl⟩
  rw [← hz] at HC ⊢
  clear hb hv hz
  by_cases h : vn = 0
  · subst h
    go_enter Tryz.func136, Tryz.ntmps136
    go_wp2_with fail
    refine HC.out.mono ?_
    rintro r w2 ⟨rfl, rfl⟩
    go_wp2
    go_ret
    exact ⟨by simp, HB.out⟩
  · have z1 : ((vn : Int) == 0) = false := beq_eq_false_iff_ne.2 (by omega)
    have HD : Hid (decide (vn = 0) = false) := Lib.hid (decide_eq_false h)
    clear h
    go_enter Tryz.func136, Tryz.ntmps136
    go_wp2
    go_ret
    exact ⟨by rw [HD.out]; rfl, HB.out⟩
set_option maxRecDepth 100000 in
set_option maxHeartbeats 1000000 in
theorem nameright_any (vk : Int) (vn : Nat) (vt : List UInt8) (w : World) (ht : vt.length ≤ 1048576) :
    Calls Tryz.prog 143 #[.agg #[], .agg #[.int .i64 vk, .int .u64 (vn : Int), .string (txt vt)]] w (AnsP (.bool (decide (vn = 0) && identX vt)) w) := by
  have HB : Hid (Below w.heap.size w ((w.alloc (.cells #[] 147)).alloc (.cells #[.int .i64 vk, .int .u64 (vn : Int), .string (txt vt)] 24))) := Lib.hid (((Below.refl _ _).alloc (Nat.le_refl _) _).alloc (by simp) _)
  have HC : Hid (∀ W, Calls Tryz.prog 82 #[.string (txt vt)] W (IdentP vt W)) := Lib.hid (fun W => ident_any vt ht W)
  unfold IdentP at HC
  obtain ⟨z, hz⟩ : ∃ z, z = identX vt := ⟨_, rfl⟩
  rw [← hz] at HC ⊢
  clear hz
  by_cases h : vn = 0
  · subst h
    go_enter Tryz.func143, Tryz.ntmps143
    go_wp2_with fail
    refine (HC.out _).mono ?_
    rintro r w2 ⟨rfl, rfl⟩
    go_wp2
    go_ret
    exact ⟨by simp, HB.out⟩
  · have z1 : ((vn : Int) == 0) = false := beq_eq_false_iff_ne.2 (by omega)
    have HD : Hid (decide (vn = 0) = false) := Lib.hid (decide_eq_false h)
    clear h
    go_enter Tryz.func143, Tryz.ntmps143
    go_wp2
    go_ret
    exact ⟨by rw [HD.out]; rfl, HB.out⟩
theorem noneright_any (vk : Int) (vn : Nat) (vt : List UInt8) (w : World) :
    Calls Tryz.prog 121 #[.agg #[], .agg #[.int .i64 vk, .int .u64 (vn : Int), .string (txt vt)]] w (AnsP (.bool false) w) := by
  have HB : Hid (Below w.heap.size w ((w.alloc (.cells #[] 138)).alloc (.cells #[.int .i64 vk, .int .u64 (vn : Int), .string (txt vt)] 24))) := Lib.hid (((Below.refl _ _).alloc (Nat.le_refl _) _).alloc (by simp) _)
  go_enter Tryz.func121, Tryz.ntmps121
  go_wp2
  go_ret
  exact ⟨rfl, HB.out⟩
def ofV (kd ty lo hi : Nat) (nv : Value) : Value :=
  if kd ≠ 1 then .iface 138 (.agg #[]) else if ty = 1 then .iface 142 (.agg #[.int .u64 (lo : Int), .int .u64 (hi : Int)]) else if ty = 2 then .iface 143 (.agg #[.int .u64 (lo : Int), .int .u64 (hi : Int)])
  else if ty = 3 then .iface 144 (.agg #[.int .u64 0, .int .u64 1]) else if ty = 4 then .iface 146 (.agg #[nv]) else if ty = 5 then .iface 149 (.agg #[]) else if ty = 6 then .iface 150 (.agg #[]) else .iface 138 (.agg #[])
set_option maxRecDepth 100000 in
set_option maxHeartbeats 2000000 in
theorem of_any (nm : List UInt8) (kd ty lo hi : Nat) (mu : Bool) (mo : Nat) (B : Option Addr) (L m : Nat) (A : Option Addr) (K c : Nat) (w : World) :
    Calls Tryz.prog 90 #[.agg #[.string (txt nm), .int .i64 (kd : Int), .int .i64 (ty : Int), .int .u64 (lo : Int), .int .u64 (hi : Int), .slice B L m, .bool mu, .int .i64 (mo : Int), .slice A K c]] w (AnsP (ofV kd ty lo hi (.slice B L m)) w) := by
  have HB : Hid (Below w.heap.size w (w.alloc (.cells #[.string (txt nm), .int .i64 (kd : Int), .int .i64 (ty : Int), .int .u64 (lo : Int), .int .u64 (hi : Int), .slice B L m, .bool mu, .int .i64 (mo : Int), .slice A K c] 72))) := Lib.hid ((Below.refl _ _).alloc (Nat.le_refl _) _)
  by_cases h : kd = 1
  · subst h
    by_cases h1 : ty = 1
    · subst h1
      go_enter Tryz.func90, Tryz.ntmps90
      go_wp2
      go_ret
      exact ⟨rfl, HB.out⟩
    have e1 : ((ty : Int) == 1) = false := beq_eq_false_iff_ne.2 (by omega)
    by_cases h2 : ty = 2
    · subst h2
      clear e1 h1
      go_enter Tryz.func90, Tryz.ntmps90
      go_wp2
      go_ret
      exact ⟨rfl, HB.out⟩
    have e2 : ((ty : Int) == 2) = false := beq_eq_false_iff_ne.2 (by omega)
    by_cases h3 : ty = 3
    · subst h3
      clear e1 h1 e2 h2
      go_enter Tryz.func90, Tryz.ntmps90
      go_wp2
      go_ret
      exact ⟨rfl, HB.out⟩
    have e3 : ((ty : Int) == 3) = false := beq_eq_false_iff_ne.2 (by omega)
    by_cases h4 : ty = 4
    · subst h4
      clear e1 h1 e2 h2 e3 h3
      go_enter Tryz.func90, Tryz.ntmps90
      go_wp2
      go_ret
      exact ⟨rfl, HB.out⟩
    have e4 : ((ty : Int) == 4) = false := beq_eq_false_iff_ne.2 (by omega)
    by_cases h5 : ty = 5
    · subst h5
      clear e1 h1 e2 h2 e3 h3 e4 h4
      go_enter Tryz.func90, Tryz.ntmps90
      go_wp2
      go_ret
      exact ⟨rfl, HB.out⟩
    have e5 : ((ty : Int) == 5) = false := beq_eq_false_iff_ne.2 (by omega)
    by_cases h6 : ty = 6
    · subst h6
      clear e1 h1 e2 h2 e3 h3 e4 h4 e5 h5
      go_enter Tryz.func90, Tryz.ntmps90
      go_wp2
      go_ret
      exact ⟨rfl, HB.out⟩
    have e6 : ((ty : Int) == 6) = false := beq_eq_false_iff_ne.2 (by omega)
    have HV : Hid (ofV 1 ty lo hi (.slice B L m) = .iface 138 (.agg #[])) := Lib.hid (by simp [ofV, h1, h2, h3, h4, h5, h6])
    clear h1 h2 h3 h4 h5 h6
    go_enter Tryz.func90, Tryz.ntmps90
    go_wp2
    go_ret
    exact ⟨by rw [HV.out]; rfl, HB.out⟩
  · have k1 : ((kd : Int) == 1) = false := beq_eq_false_iff_ne.2 (by omega)
    have k1' : ((kd : Int) != 1) = true := by unfold bne; rw [k1]; rfl
    have HV : Hid (ofV kd ty lo hi (.slice B L m) = .iface 138 (.agg #[])) := Lib.hid (by simp [ofV, h])
    clear h
    go_enter Tryz.func90, Tryz.ntmps90
    go_wp2
    go_ret
    exact ⟨by rw [HV.out]; rfl, HB.out⟩
end Go.Proofs.YtljjaikejfoanaaGreat
