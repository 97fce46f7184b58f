/-
  Package lex: tokens. No condition but those of each theorem.
-/
import Derived.Test.YtgpcbfjakgndlaaLexFnG
import Derived.Test.YtgpcbfjakgndlaaLexFnH
import Derived.Test.YtgpcbfjakgndlaaLexSpec
namespace Go.Proofs.Ytgpcbfjakgndlaa
open Go.RowKit
set_option linter.unusedSimpArgs false

theorem Try.infoK : (Try.prog.info? 37).map (fun i => (i.zero, i.size, i.bytes)) = some (some (.agg #[.int .i64 0, .string ⟨#[]⟩, .int .i64 0, .int .i64 0]), 4, 40) := by kernel_rfl
theorem zeroK : (Value.agg #[.int .i64 0, .string ⟨#[]⟩, .int .i64 0, .int .i64 0]).cells.size = 4 := by rfl
/-- The reader that is made of a row of characters. -/
theorem rdr_made {w1 : World} {base : Nat} {v : Value} {s : List UInt8} {p : Ps} (h : OwnK 75 3 w1 base v ((cut s).length + 1) ((chs p (cut s)).flatMap chC)) :
    Rdr (w1.alloc (.cells #[v] 67)) (w1.heap.size + 1) w1.heap.size p (cut s) := by
  obtain ⟨d, ⟨-, A, c, rfl, h1, h2⟩, -⟩ := h.row
  obtain ⟨hd, off, rfl, hc⟩ := h2 (by omega)
  have hb := (Below.refl w1.heap.size w1).alloc (Nat.le_refl _) (.cells #[.slice (some ⟨d, off, none⟩) ((cut s).length + 1) c] 67)
  exact ⟨by omega, by simp, cut_item s, d, off, c, by omega, by omega, h1, Blk.new w1 _ _, fun j u hu => (hb.cell (p := ⟨d, off + j, none⟩) hd).trans (hc j u hu)⟩
/-- What tokens leaves. -/
def TksP (s : List UInt8) (w : World) (r : Ending) (w' : World) : Prop :=
  Below w.heap.size w w' ∧ (((lx (1, 1) (cut s)).2.1 = 0 ∧ ∃ v d, w.heap.size ≤ d ∧ r = .returned v ∧ Toks w' d v (lx (1, 1) (cut s)).1) ∨ ((lx (1, 1) (cut s)).2.1 = 20 ∧ r = .panicked (prb (lx (1, 1) (cut s)).2.2)))
theorem consL_end (os : List Tok) (p : Ps) : consL os (lx p []) = (os ++ [⟨0, [], p⟩], 0, (0, 0)) := by rw [lx_nil]; rfl
theorem consL_go {os : List Tok} {p q : Ps} {x : It} {r r' : List It} {t : Tok} (h : step p x r = .go (some t) r' q) : consL os (lx p (x :: r)) = consL (os ++ [t]) (lx q r') := by
  rw [lx_go h, consO_eq, consL_consL]; rfl
theorem consL_bad {os : List Tok} {p q : Ps} {x : It} {r : List It} (h : step p x r = .bad q) : consL os (lx p (x :: r)) = ([], 20, q) := by rw [lx_bad h]; rfl
set_option maxRecDepth 100000 in
set_option maxHeartbeats 2000000 in
theorem tokens_any (s : List UInt8) (w : World) (hs : s.length ≤ 20000) : Calls Try.prog 18 #[.string (txt s)] w (TksP s w) := by
  have hcl := cut_len s
  have CH := Lib.hid (chars_any s w (by omega))
  go_enter Try.func18, Try.ntmps18
  go_wp2_with fail
  refine CH.out.mono ?_
  rintro r w1 ⟨v, rfl, hown, hB1⟩
  have hR0 := rdr_made hown
  have hs1 := hB1.size
  have hB2 := hB1.alloc hs1 (.cells #[v] 67)
  obtain ⟨A0, c0, rfl⟩ := hown.shape
  obtain ⟨g, hg⟩ : ∃ g, g = w1.heap.size := ⟨_, rfl⟩
  clear hown
  go_wp2
  rw [← hg] at hR0 ⊢
  have HGE := Lib.hid hg
  have hgw : w.heap.size ≤ g := by omega
  clear hg
  go_loopw [3] (fun y wr => ∃ (os : List Tok) (p : Ps) (l : List It), OwnK 37 4 wr (g + 1) y os.length (os.flatMap tkC) ∧ Rdr wr (g + 1) g p l ∧ Below w.heap.size w wr ∧ os.length + l.length ≤ 20000 ∧ Hid (lx (1, 1) (cut s) = consL os (lx p l))) (fun _ wr => rdN wr g)
  case atStart => exact ⟨[], (1, 1), cut s, OwnK.nil _ _ _ _, hR0, hB2, by simp; omega, Lib.hid (run0 (cut s))⟩
  case round =>
    obtain ⟨os, p, l, hown, hR, hB, hlen, HC⟩ := hrel
    have SK := Lib.hid (skip_any (g + 1) g p l wr hR)
    have HM := Lib.hid hR.n
    clear hR
    go_wp2_with fail
    refine SK.out.mono ?_
    rintro r w2 ⟨rfl, hg2, p2, l2, hR2, hlx2, hsk, hlen2⟩
    have hown2 := hown.grown hg2 (by
      cases hv : u3.ownBlock with
      | none => exact .inl rfl
      | some b => have := (hown.lt b hv).1; exact .inr (by simp; omega))
    have hB3 := hB.grown hg2 hB.size (fun k hk => by injection hk with hk; omega)
    have TK := Lib.hid (token_any (g + 1) g p2 l2 w2 hR2 (by omega) hsk)
    have HC2 : Hid (lx (1, 1) (cut s) = consL os (lx p2 l2)) := Lib.hid (by rw [HC.out, hlx2])
    clear hown hg2 hR2 hlx2 hsk hB HC
    cases hst : tokX p2 l2 with
    | bad q =>
      have HX : Hid (lx (1, 1) (cut s) = ([], 20, q)) := Lib.hid (by
        rw [HC2.out]
        cases l2 with
        | nil => cases hst
        | cons x r => exact consL_bad hst)
      have TK2 : Hid (Calls Try.prog 29 #[.pointer (some ⟨g, 0, none⟩)] w2 (fun r' w' => r' = .panicked (prb q) ∧ w2.grownBy w' (some g))) := Lib.hid (TK.out.mono fun _ _ ⟨h1, h2⟩ => by
        rw [hst] at h2; exact ⟨h2, h1⟩)
      have HB3 := Lib.hid hB3
      clear TK hst hB3
      go_wp2_with fail
      refine TK2.out.mono ?_
      rintro r w3 ⟨rfl, hg3⟩
      have HB4 := Lib.hid (HB3.out.grown hg3 HB3.out.size (fun k hk => by injection hk with hk; omega))
      clear hg3
      go_wp2
      exact ⟨rfl, HB4.out, .inr (by rw [HX.out]; exact ⟨rfl, rfl⟩)⟩
    | go o l3 q =>
      have TK2 : Hid (Calls Try.prog 29 #[.pointer (some ⟨g, 0, none⟩)] w2 (fun r' w' => ∃ t, o = some t ∧ r' = .returned (.agg #[.int .i64 (t.k : Int), .string (txt t.t), .int .i64 (t.p.1 : Int), .int .i64 (t.p.2 : Int)]) ∧ Rdr w' (g + 1) g q l3 ∧ w2.grownBy w' (some g))) := Lib.hid (TK.out.mono fun _ _ ⟨h1, h2⟩ => by
        rw [hst] at h2
        obtain ⟨t, h3, h4, h5⟩ := h2
        exact ⟨t, h3, h4, h5, h1⟩)
      have HST := Lib.hid hst
      have HB3 := Lib.hid hB3
      clear TK hst hB3
      go_wp2_with fail
      refine TK2.out.mono ?_
      rintro r w3 ⟨t, ho, rfl, hR3, hg3⟩
      have hown3 := hown2.grown hg3 (by
        cases hv : u3.ownBlock with
        | none => exact .inl rfl
        | some b => have := (hown2.lt b hv).1; exact .inr (by simp; omega))
      have hB4 := HB3.out.grown hg3 HB3.out.size (fun k hk => by injection hk with hk; omega)
      have hs3 : g + 1 ≤ w3.heap.size := hR3.lt.2
      have hb1 := (Below.refl w3.heap.size w3).alloc (Nat.le_refl _) (.cells #[.int .i64 (t.k : Int), .string (txt t.t), .int .i64 (t.p.1 : Int), .int .i64 (t.p.2 : Int)] 37)
      obtain ⟨W, hW⟩ : ∃ W, W = w3.alloc (.cells #[.int .i64 (t.k : Int), .string (txt t.t), .int .i64 (t.p.1 : Int), .int .i64 (t.p.2 : Int)] 37) := ⟨_, rfl⟩
      have hWT : TkB W w3.heap.size t := by rw [hW]; exact Blk.new w3 _ _
      rw [← hW] at hb1
      have hsW := hb1.size
      have hownW := hown3.below hb1
      have hRW := hR3.below hb1 hs3
      have hBW := hB4.trans (hb1.mono hB4.size)
      have hb2 := (Below.refl W.heap.size W).alloc (Nat.le_refl _) (.cells #[.int .i64 (t.k : Int), .string (txt t.t), .int .i64 (t.p.1 : Int), .int .i64 (t.p.2 : Int)] 37)
      have hblk := Blk.new W 37 #[.int .i64 (t.k : Int), .string (txt t.t), .int .i64 (t.p.1 : Int), .int .i64 (t.p.2 : Int)]
      have hownA := hownW.below hb2
      have hbsA : g + 1 ≤ (W.alloc (.cells #[.int .i64 (t.k : Int), .string (txt t.t), .int .i64 (t.p.1 : Int), .int .i64 (t.p.2 : Int)] 37)).heap.size := by have := hb2.size; omega
      have hRA := hRW.below hb2 (by omega)
      have hBA := hBW.trans (hb2.mono hBW.size)
      have hTA : TkB (W.alloc (.cells #[.int .i64 (t.k : Int), .string (txt t.t), .int .i64 (t.p.1 : Int), .int .i64 (t.p.2 : Int)] 37)) w3.heap.size t := Blk.below hWT hb2 (Blk.lt hWT)
      obtain ⟨k0, k1, k2, k3, -⟩ := hWT.cells
      have HRA := Lib.hid hRA
      have HBA := Lib.hid hBA
      have HTA := Lib.hid hTA
      have hne3 : some w3.heap.size ≠ u3.ownBlock := fun e => by have := (hown3.lt _ e.symm).2; omega
      clear hown2 hown3 hB4 hb1 hownW hRW hBW hb2 hR3 hg3 hRA hBA hTA hWT
      have hWs : W.heap.size = w3.heap.size + 1 := by rw [hW]; simp
      rw [hWs] at hblk
      clear hWs
      subst hW
      go_wp2_with (at_builtin; refine wpList_append_k Try.underlying23 Try.infoK zeroK (by decide) rfl (.tmp 11) (.tmp 13) rfl rfl (g + 1) _ os.length _ rfl hownA (w3.heap.size + 1) rfl [.int .i64 (t.k : Int), .string (txt t.t), .int .i64 (t.p.1 : Int), .int .i64 (t.p.2 : Int)] hblk rfl (tkC_one t) ?h1 ?h2 hbsA ?_)
      case h1 => omega
      case h2 => omega
      intro v' w' hap
      have hb := hap.below hownA hbsA
      have hown' : OwnK 37 4 w' (g + 1) v' (os ++ [t]).length ((os ++ [t]).flatMap tkC) := by
        rw [List.flatMap_append, List.length_append]; exact hap.1
      have HR' := Lib.hid (HRA.out.below hb (Nat.le_refl _))
      have HB' := Lib.hid (HBA.out.trans (hb.mono (by omega)))
      have hT' : TkB w' w3.heap.size t := Blk.grown HTA.out hap.2.1 hne3
      obtain ⟨m0, -⟩ := hT'.cells
      clear hap hb hblk hownA hbsA k0 k1 k2 k3 hT'
      subst ho
      cases l2 with
      | nil =>
        have HX : Hid (lx (1, 1) (cut s) = (os ++ [t], 0, (0, 0)) ∧ t.k = 0) := Lib.hid (by
          have h1 : St.go (some ⟨0, [], p2⟩) [] p2 = .go (some t) l3 q := HST.out
          injection h1 with h1 _ _
          injection h1 with h1
          exact ⟨by rw [HC2.out, consL_end, h1], by rw [← h1]⟩)
        have k0 : ((t.k : Int) == 0) = true := by rw [HX.out.2]; rfl
        obtain ⟨d, hrow, hdb⟩ := hown'.row
        have hd1 : w.heap.size ≤ d := by have := hdb (by simp); omega
        have HTK : Hid (Toks w' d v' (os ++ [t])) := Lib.hid hrow
        clear hown' hrow hdb
        go_wp2
        go_ret
        exact ⟨HB'.out, .inl (by rw [HX.out.1]; exact ⟨rfl, _, d, hd1, rfl, HTK.out⟩)⟩
      | cons x r =>
        have hst : step p2 x r = .go (some t) l3 q := HST.out
        have hk0 := (step_tok hst).2
        have hl3 := (step_len hst).1
        have HX : Hid (lx (1, 1) (cut s) = consL (os ++ [t]) (lx q l3)) := Lib.hid (by rw [HC2.out, consL_go hst])
        have k0 : ((t.k : Int) == 0) = false := beq_eq_false_iff_ne.2 (by omega)
        have HO := Lib.hid hown'
        simp only [List.length_cons] at hlen2
        clear hown' hst hk0
        go_wp2
        go_roundw
        case rel => exact ⟨os ++ [t], q, l3, HO.out, HR'.out, HB'.out, by rw [List.length_append]; simp only [List.length_cons, List.length_nil]; omega, HX⟩
        case measure =>
          rw [HR'.out.n, HM.out]
          omega

end Go.Proofs.Ytgpcbfjakgndlaa
