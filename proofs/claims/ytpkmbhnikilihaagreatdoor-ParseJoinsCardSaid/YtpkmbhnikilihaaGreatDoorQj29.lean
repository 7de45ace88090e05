/- The landed spread, selection, selections. -/
import Derived.Test.YtpkmbhnikilihaaGreatDoorQj26
import Derived.Test.YtpkmbhnikilihaaGreatDoorQj28
namespace Go.Proofs.YtpkmbhnikilihaaGreatDoor
open Go.RowKit

theorem S1.make1 {w : World} {r : Nat} {cs0 : Array Value} {t0 : TypeId} {o : Obj} {ts : List Tok} {d : Nat} (h : S0 w r (w.alloc (.cells cs0 t0)) o ts d) (cs : Array Value) (t : TypeId) : S1 w r ((w.alloc (.cells cs0 t0)).alloc (.cells cs t)) o (w.heap.size + 1) (.cells cs t (0, 0)) ts d := by
  have := S1.make h cs t
  rwa [show (w.alloc (.cells cs0 t0)).heap.size = w.heap.size + 1 by simp] at this
theorem word_some {ts : List Tok} (h : wordB ts = true) : ∃ n r, nameR ts = some (n, r) := by
  cases ts with
  | nil => cases h
  | cons t ts =>
    have : t.1 = 2 := by simpa [wordB] using h
    exact ⟨t.2, ts, by rw [name_cons, if_pos this]⟩
theorem word_none {ts : List Tok} (h : wordB ts = false) : nameR ts = none := by
  cases ts with
  | nil => rfl
  | cons t ts =>
    have : t.1 ≠ 2 := by simpa [wordB] using h
    rw [name_cons, if_neg this]

set_option maxRecDepth 100000 in
set_option maxHeartbeats 8000000 in
theorem spread_any (S : SelsF) (HF : ∀ ts l r, S ts = .ok (l, r) → Sfx r ts) (d : Nat) (ts : List Tok) (r : Nat) (w : World) (HS : ∀ tq wx, GoodD tq → tq.length ≤ ts.length → Rd wx r tq d → KRd r wx → Calls Tryz.prog 96 #[.pointer (some ⟨r, 0, none⟩)] wx (Post r d wx (layR encSL) (S tq))) (hG : GoodD ts) (hd : d ≤ 16) (hR : Rd w r ts d) (hK : KRd r w) : Calls Tryz.prog 232 #[.pointer (some ⟨r, 0, none⟩)] w (Post r d w (layS encS) (spreadR S d ts)) := by
  suffices H : ∀ Q : Ending → World → Prop, (∀ e w', Post r d w (layS encS) (spreadR S d ts) e w' → Q e w') → Calls Tryz.prog 232 #[.pointer (some ⟨r, 0, none⟩)] w Q from H _ (fun _ _ h => h)
  intro Q hQ
  have HQ := Lib.hid hQ
  have L0 := Lib.hid (List.suffix_refl ts)
  have HSS := Lib.hid HS
  have HFF := Lib.hid HF
  have K0 := Lib.hid (S0.start hR hK #[.int .i64 0, .string ⟨#[]⟩, .string ⟨#[]⟩, .slice none 0 0, .slice none 0 0, .string ⟨#[]⟩, .slice none 0 0] 72)
  have G0 := Lib.hid hG
  clear hQ hR hK hG HS HF
  go_enter Tryz.func232, Tryz.ntmps232
  go_wp2_with fail
  have K1 := Lib.hid (S1.make1 K0.out #[.int .i64 2, .string ⟨#[]⟩, .string ⟨#[]⟩, .slice none 0 0, .slice none 0 0, .string ⟨#[]⟩, .slice none 0 0] 72)
  refine (skip_any r ts d 2 onB _ K1.out.rd).mono ?_
  intro e w2 h
  cases hb : atB 2 onB ts with
  | true =>
    rw [hb] at h
    obtain ⟨rfl, rr, mm⟩ := h
    rw [skip_yes hb] at rr
    have G3 := Lib.hid (G0.out.sub (at_sfx hb).1)
    have L4 := Lib.hid (((at_sfx hb).1).trans L0.out)
    have E5 := Lib.hid hb
    have K6 := Lib.hid (K1.out.next rr mm)
    clear rr mm hb
    go_wp2_with fail
    refine (pname_any r (ts.tail) d _ K6.out.rd).mono ?_
    intro e w7 h
    cases hn : nameR (ts.tail) with
    | none =>
      rw [hn] at h
      obtain ⟨rfl, m⟩ := h
      exact ⟨rfl, HQ.out _ _ (post_err (by simp only [spreadR, inlineR, E5.out, hn, if_true]) (K6.out.mv.trans m))⟩
    | some p =>
      obtain ⟨o, tn7⟩ := p
      rw [hn] at h
      obtain ⟨rfl, rr, mm⟩ := h
      have No := Lib.hid (G3.out.name hn)
      have G8 := Lib.hid (G3.out.sub (name_sfx hn).1)
      have L9 := Lib.hid (((name_sfx hn).1).trans L4.out)
      have E10 := Lib.hid hn
      have K11 := Lib.hid (K6.out.next rr mm)
      clear rr mm hn
      obtain ⟨y0, y1, y2, y3, y4, y5, y6, yz⟩ := seven_cells K11.out.loc
      have yf0 := yz 0
      have yf1 := yz 1
      have yf2 := yz 2
      have yf3 := yz 3
      have yf4 := yz 4
      have yf5 := yz 5
      have yf6 := yz 6
      clear yz
      go_wp2_with fail
      clear y0 y1 y2 y3 y4 y5 y6 yf0 yf1 yf2 yf3 yf4 yf5 yf6
      have K12 : Hid (S1 w r (w7.setCell ⟨w.heap.size + 1, 5, none⟩ (.string o)) _ (w.heap.size + 1) (.cells #[.int .i64 2, .string ⟨#[]⟩, .string ⟨#[]⟩, .slice none 0 0, .slice none 0 0, .string o, .slice none 0 0] 72 (0, 0)) _ d) := Lib.hid (K11.out.put 5 (.string o))
      refine (dirs_any false d (tn7) r _ G8.out hd K12.out.rd K12.out.k).mono ?_
      intro e w13 h
      cases hv : dirsR false d (tn7) with
      | error x =>
        rw [hv] at h
        obtain ⟨rfl, m⟩ := of_err h
        exact ⟨rfl, HQ.out _ _ (post_err (by simp only [spreadR, inlineR, E5.out, E10.out, hv, if_true]) (K12.out.mv.trans m))⟩
      | ok p =>
        obtain ⟨ds, tp13⟩ := p
        rw [hv] at h
        obtain ⟨⟨v, rfl, hl⟩, rr, mm⟩ := of_ok h
        obtain ⟨A4, kA4, rfl, hts⟩ := row_open hl
        have G14 := Lib.hid (G8.out.sub (dirs_sfx hv))
        have L15 := Lib.hid (((dirs_sfx hv)).trans L9.out)
        have K16 := Lib.hid (K12.out.next rr mm)
        have O17 := Lib.hid (Ov.of hts K12.out.blt)
        have E18 := Lib.hid hv
        clear rr mm hv hl hts h
        obtain ⟨y0, y1, y2, y3, y4, y5, y6, yz⟩ := seven_cells K16.out.loc
        have yf0 := yz 0
        have yf1 := yz 1
        have yf2 := yz 2
        have yf3 := yz 3
        have yf4 := yz 4
        have yf5 := yz 5
        have yf6 := yz 6
        clear yz
        go_wp2_with fail
        clear y0 y1 y2 y3 y4 y5 y6 yf0 yf1 yf2 yf3 yf4 yf5 yf6
        have K19 : Hid (S1 w r (w13.setCell ⟨w.heap.size + 1, 4, none⟩ (.slice A4 (rowOf encD ds).len kA4)) _ (w.heap.size + 1) (.cells #[.int .i64 2, .string ⟨#[]⟩, .string ⟨#[]⟩, .slice none 0 0, .slice A4 (rowOf encD ds).len kA4, .string o, .slice none 0 0] 72 (0, 0)) _ d) := Lib.hid (K16.out.put 4 (.slice A4 (rowOf encD ds).len kA4))
        have O20 : Hid (Ov (w.heap.size + 1) (w13.setCell ⟨w.heap.size + 1, 4, none⟩ (.slice A4 (rowOf encD ds).len kA4)) _ _) := Lib.hid (O17.out.put (i := 4) (v := .slice A4 (rowOf encD ds).len kA4) (Nat.le_refl _))
        refine (HSS.out (tp13) _ G14.out (L15.out.length_le) K19.out.rd K19.out.k).mono ?_
        intro e w21 h
        cases hv : S (tp13) with
        | error x =>
          rw [hv] at h
          obtain ⟨rfl, m⟩ := of_err h
          exact ⟨rfl, HQ.out _ _ (post_err (by simp only [spreadR, inlineR, E5.out, E10.out, E18.out, hv, if_true]) (K19.out.mv.trans m))⟩
        | ok p =>
          obtain ⟨sq, tp21⟩ := p
          rw [hv] at h
          obtain ⟨⟨v, rfl, hl⟩, rr, mm⟩ := of_ok h
          obtain ⟨A6, kA6, rfl, hts⟩ := row_open hl
          have G22 := Lib.hid (G14.out.sub (HFF.out _ _ _ hv).1)
          have L23 := Lib.hid (((HFF.out _ _ _ hv).1).trans L15.out)
          have K24 := Lib.hid (K19.out.next rr mm)
          have O25 := Lib.hid (O20.out.next mm K19.out.rb)
          have O26 := Lib.hid (Ov.of hts K19.out.blt)
          have E27 := Lib.hid hv
          clear rr mm hv hl hts h
          obtain ⟨y0, y1, y2, y3, y4, y5, y6, yz⟩ := seven_cells K24.out.loc
          have yf0 := yz 0
          have yf1 := yz 1
          have yf2 := yz 2
          have yf3 := yz 3
          have yf4 := yz 4
          have yf5 := yz 5
          have yf6 := yz 6
          clear yz
          obtain ⟨x0, x1, x2, x3, x4, x5, x6, xz⟩ := seven_cells K24.out.res
          have xf0 := xz 0
          have xf1 := xz 1
          have xf2 := xz 2
          have xf3 := xz 3
          have xf4 := xz 4
          have xf5 := xz 5
          have xf6 := xz 6
          clear xz
          go_wp2_with fail
          clear y0 y1 y2 y3 y4 y5 y6 yf0 yf1 yf2 yf3 yf4 yf5 yf6 x0 x1 x2 x3 x4 x5 x6 xf0 xf1 xf2 xf3 xf4 xf5 xf6
          have K28 : Hid (S1 w r (w21.setCell ⟨w.heap.size + 1, 6, none⟩ (.slice A6 (encSL sq).len kA6)) _ (w.heap.size + 1) (.cells #[.int .i64 2, .string ⟨#[]⟩, .string ⟨#[]⟩, .slice none 0 0, .slice A4 (rowOf encD ds).len kA4, .string o, .slice A6 (encSL sq).len kA6] 72 (0, 0)) _ d) := Lib.hid (K24.out.put 6 (.slice A6 (encSL sq).len kA6))
          have O29 : Hid (Ov (w.heap.size + 1) (w21.setCell ⟨w.heap.size + 1, 6, none⟩ (.slice A6 (encSL sq).len kA6)) _ _) := Lib.hid (O25.out.put (i := 6) (v := .slice A6 (encSL sq).len kA6) (Nat.le_refl _))
          have O30 : Hid (Ov (w.heap.size + 1) (w21.setCell ⟨w.heap.size + 1, 6, none⟩ (.slice A6 (encSL sq).len kA6)) _ _) := Lib.hid (O26.out.put (i := 6) (v := .slice A6 (encSL sq).len kA6) (Nat.le_refl _))
          obtain ⟨f1, f2, f3⟩ := S1.fin (ys := [.int .i64 0, .string ⟨#[]⟩, .string ⟨#[]⟩, .slice none 0 0, .slice none 0 0, .string ⟨#[]⟩, .slice none 0 0]) K28.out [.int .i64 2, .string ⟨#[]⟩, .string ⟨#[]⟩, .slice none 0 0, .slice A4 (rowOf encD ds).len kA4, .string o, .slice A6 (encSL sq).len kA6] rfl
          have Fd := O29.out.fin (w := w) (Nat.le_of_lt K28.out.bl) [.int .i64 2, .string ⟨#[]⟩, .string ⟨#[]⟩, .slice none 0 0, .slice A4 (rowOf encD ds).len kA4, .string o, .slice A6 (encSL sq).len kA6]
          have Fs := O30.out.fin (w := w) (Nat.le_of_lt K28.out.bl) [.int .i64 2, .string ⟨#[]⟩, .string ⟨#[]⟩, .slice none 0 0, .slice A4 (rowOf encD ds).len kA4, .string o, .slice A6 (encSL sq).len kA6]
          have FP := HQ.out _ _ (post_ok (a := .mk 2 eB eB .nil ds o sq) (by simp only [spreadR, inlineR, E5.out, E10.out, E18.out, E27.out, if_true]) ⟨[.int .i64 2, .string ⟨#[]⟩, .string ⟨#[]⟩, .slice none 0 0, .slice A4 (rowOf encD ds).len kA4, .string o, .slice A6 (encSL sq).len kA6], rfl, (by rw [encS]; exact TS.int (TS.str (Nat.zero_le _) (TS.str (Nat.zero_le _) (TS.row (show TP _ _ (.row (encM .nil)) _ by rw [encM]; exact TP.none _ _) (TS.row Fd (TS.str No.out (TS.row Fs (TS.nil _ _))))))))⟩ f2 f3)
          exact ret_st rfl rfl rfl f1 Tryz.underlying72 ⟨_, rfl⟩ (by kernel_rfl) FP
  | false =>
    rw [hb] at h
    obtain ⟨rfl, rr, mm⟩ := h
    rw [skip_no hb] at rr
    have E31 := Lib.hid hb
    have K32 := Lib.hid (K1.out.next rr mm)
    clear rr mm hb
    go_wp2_with fail
    refine (atWord_any r ts d _ K32.out.rd).mono ?_
    intro e w33 h
    cases hb : wordB ts with
    | true =>
      rw [hb] at h
      obtain ⟨rfl, rfl⟩ := h
      obtain ⟨nm34, nt34, hn34⟩ := word_some hb
      have E35 := Lib.hid hn34
      clear hb hn34
      obtain ⟨y0, y1, y2, y3, y4, y5, y6, yz⟩ := seven_cells K32.out.loc
      have yf0 := yz 0
      have yf1 := yz 1
      have yf2 := yz 2
      have yf3 := yz 3
      have yf4 := yz 4
      have yf5 := yz 5
      have yf6 := yz 6
      clear yz
      go_wp2_with fail
      clear y0 y1 y2 y3 y4 y5 y6 yf0 yf1 yf2 yf3 yf4 yf5 yf6
      have K36 : Hid (S1 w r (w2.setCell ⟨w.heap.size + 1, 0, none⟩ (.int .i64 1)) _ (w.heap.size + 1) (.cells #[.int .i64 1, .string ⟨#[]⟩, .string ⟨#[]⟩, .slice none 0 0, .slice none 0 0, .string ⟨#[]⟩, .slice none 0 0] 72 (0, 0)) _ d) := Lib.hid (K32.out.put 0 (.int .i64 1))
      refine (pname_any r (ts) d _ K36.out.rd).mono ?_
      intro e w37 h
      rw [E35.out] at h
      obtain ⟨rfl, rr, mm⟩ := h
      have Nnm34 := Lib.hid (G0.out.name E35.out)
      have G38 := Lib.hid (G0.out.sub (name_sfx E35.out).1)
      have L39 := Lib.hid (((name_sfx E35.out).1).trans L0.out)
      have K40 := Lib.hid (K36.out.next rr mm)
      clear rr mm
      obtain ⟨y0, y1, y2, y3, y4, y5, y6, yz⟩ := seven_cells K40.out.loc
      have yf0 := yz 0
      have yf1 := yz 1
      have yf2 := yz 2
      have yf3 := yz 3
      have yf4 := yz 4
      have yf5 := yz 5
      have yf6 := yz 6
      clear yz
      go_wp2_with fail
      clear y0 y1 y2 y3 y4 y5 y6 yf0 yf1 yf2 yf3 yf4 yf5 yf6
      have K41 : Hid (S1 w r (w37.setCell ⟨w.heap.size + 1, 2, none⟩ (.string nm34)) _ (w.heap.size + 1) (.cells #[.int .i64 1, .string ⟨#[]⟩, .string nm34, .slice none 0 0, .slice none 0 0, .string ⟨#[]⟩, .slice none 0 0] 72 (0, 0)) _ d) := Lib.hid (K40.out.put 2 (.string nm34))
      refine (dirs_any false d (nt34) r _ G38.out hd K41.out.rd K41.out.k).mono ?_
      intro e w42 h
      cases hv : dirsR false d (nt34) with
      | error x =>
        rw [hv] at h
        obtain ⟨rfl, m⟩ := of_err h
        exact ⟨rfl, HQ.out _ _ (post_err (by simp only [spreadR, inlineR, E31.out, E35.out, hv, if_false, Bool.false_eq_true]) (K41.out.mv.trans m))⟩
      | ok p =>
        obtain ⟨ds, tp42⟩ := p
        rw [hv] at h
        obtain ⟨⟨v, rfl, hl⟩, rr, mm⟩ := of_ok h
        obtain ⟨A4, kA4, rfl, hts⟩ := row_open hl
        have G43 := Lib.hid (G38.out.sub (dirs_sfx hv))
        have L44 := Lib.hid (((dirs_sfx hv)).trans L39.out)
        have K45 := Lib.hid (K41.out.next rr mm)
        have O46 := Lib.hid (Ov.of hts K41.out.blt)
        have E47 := Lib.hid hv
        clear rr mm hv hl hts h
        obtain ⟨y0, y1, y2, y3, y4, y5, y6, yz⟩ := seven_cells K45.out.loc
        have yf0 := yz 0
        have yf1 := yz 1
        have yf2 := yz 2
        have yf3 := yz 3
        have yf4 := yz 4
        have yf5 := yz 5
        have yf6 := yz 6
        clear yz
        obtain ⟨x0, x1, x2, x3, x4, x5, x6, xz⟩ := seven_cells K45.out.res
        have xf0 := xz 0
        have xf1 := xz 1
        have xf2 := xz 2
        have xf3 := xz 3
        have xf4 := xz 4
        have xf5 := xz 5
        have xf6 := xz 6
        clear xz
        go_wp2_with fail
        clear y0 y1 y2 y3 y4 y5 y6 yf0 yf1 yf2 yf3 yf4 yf5 yf6 x0 x1 x2 x3 x4 x5 x6 xf0 xf1 xf2 xf3 xf4 xf5 xf6
        have K48 : Hid (S1 w r (w42.setCell ⟨w.heap.size + 1, 4, none⟩ (.slice A4 (rowOf encD ds).len kA4)) _ (w.heap.size + 1) (.cells #[.int .i64 1, .string ⟨#[]⟩, .string nm34, .slice none 0 0, .slice A4 (rowOf encD ds).len kA4, .string ⟨#[]⟩, .slice none 0 0] 72 (0, 0)) _ d) := Lib.hid (K45.out.put 4 (.slice A4 (rowOf encD ds).len kA4))
        have O49 : Hid (Ov (w.heap.size + 1) (w42.setCell ⟨w.heap.size + 1, 4, none⟩ (.slice A4 (rowOf encD ds).len kA4)) _ _) := Lib.hid (O46.out.put (i := 4) (v := .slice A4 (rowOf encD ds).len kA4) (Nat.le_refl _))
        obtain ⟨f1, f2, f3⟩ := S1.fin (ys := [.int .i64 0, .string ⟨#[]⟩, .string ⟨#[]⟩, .slice none 0 0, .slice none 0 0, .string ⟨#[]⟩, .slice none 0 0]) K48.out [.int .i64 1, .string ⟨#[]⟩, .string nm34, .slice none 0 0, .slice A4 (rowOf encD ds).len kA4, .string ⟨#[]⟩, .slice none 0 0] rfl
        have Fd := O49.out.fin (w := w) (Nat.le_of_lt K48.out.bl) [.int .i64 1, .string ⟨#[]⟩, .string nm34, .slice none 0 0, .slice A4 (rowOf encD ds).len kA4, .string ⟨#[]⟩, .slice none 0 0]
        have FP := HQ.out _ _ (post_ok (a := .mk 1 eB nm34 .nil ds eB .nil) (by simp only [spreadR, inlineR, E31.out, E35.out, E47.out, if_false, Bool.false_eq_true]) ⟨[.int .i64 1, .string ⟨#[]⟩, .string nm34, .slice none 0 0, .slice A4 (rowOf encD ds).len kA4, .string ⟨#[]⟩, .slice none 0 0], rfl, (by rw [encS]; exact TS.int (TS.str (Nat.zero_le _) (TS.str Nnm34.out (TS.row (show TP _ _ (.row (encM .nil)) _ by rw [encM]; exact TP.none _ _) (TS.row Fd (TS.str (Nat.zero_le _) (TS.row (show TP _ _ (.row (encSL .nil)) _ by rw [encSL]; exact TP.none _ _) (TS.nil _ _))))))))⟩ f2 f3)
        exact ret_st rfl rfl rfl f1 Tryz.underlying72 ⟨_, rfl⟩ (by kernel_rfl) FP
    | false =>
      rw [hb] at h
      obtain ⟨rfl, rfl⟩ := h
      have hn50 := word_none hb
      have E51 := Lib.hid hn50
      clear hb hn50
      go_wp2_with fail
      refine (dirs_any false d (ts) r _ G0.out hd K32.out.rd K32.out.k).mono ?_
      intro e w52 h
      cases hv : dirsR false d (ts) with
      | error x =>
        rw [hv] at h
        obtain ⟨rfl, m⟩ := of_err h
        exact ⟨rfl, HQ.out _ _ (post_err (by simp only [spreadR, inlineR, E31.out, E51.out, hv, if_false, Bool.false_eq_true]) (K32.out.mv.trans m))⟩
      | ok p =>
        obtain ⟨ds, tp52⟩ := p
        rw [hv] at h
        obtain ⟨⟨v, rfl, hl⟩, rr, mm⟩ := of_ok h
        obtain ⟨A4, kA4, rfl, hts⟩ := row_open hl
        have G53 := Lib.hid (G0.out.sub (dirs_sfx hv))
        have L54 := Lib.hid (((dirs_sfx hv)).trans L0.out)
        have K55 := Lib.hid (K32.out.next rr mm)
        have O56 := Lib.hid (Ov.of hts K32.out.blt)
        have E57 := Lib.hid hv
        clear rr mm hv hl hts h
        obtain ⟨y0, y1, y2, y3, y4, y5, y6, yz⟩ := seven_cells K55.out.loc
        have yf0 := yz 0
        have yf1 := yz 1
        have yf2 := yz 2
        have yf3 := yz 3
        have yf4 := yz 4
        have yf5 := yz 5
        have yf6 := yz 6
        clear yz
        go_wp2_with fail
        clear y0 y1 y2 y3 y4 y5 y6 yf0 yf1 yf2 yf3 yf4 yf5 yf6
        have K58 : Hid (S1 w r (w52.setCell ⟨w.heap.size + 1, 4, none⟩ (.slice A4 (rowOf encD ds).len kA4)) _ (w.heap.size + 1) (.cells #[.int .i64 2, .string ⟨#[]⟩, .string ⟨#[]⟩, .slice none 0 0, .slice A4 (rowOf encD ds).len kA4, .string ⟨#[]⟩, .slice none 0 0] 72 (0, 0)) _ d) := Lib.hid (K55.out.put 4 (.slice A4 (rowOf encD ds).len kA4))
        have O59 : Hid (Ov (w.heap.size + 1) (w52.setCell ⟨w.heap.size + 1, 4, none⟩ (.slice A4 (rowOf encD ds).len kA4)) _ _) := Lib.hid (O56.out.put (i := 4) (v := .slice A4 (rowOf encD ds).len kA4) (Nat.le_refl _))
        refine (HSS.out (tp52) _ G53.out (L54.out.length_le) K58.out.rd K58.out.k).mono ?_
        intro e w60 h
        cases hv : S (tp52) with
        | error x =>
          rw [hv] at h
          obtain ⟨rfl, m⟩ := of_err h
          exact ⟨rfl, HQ.out _ _ (post_err (by simp only [spreadR, inlineR, E31.out, E51.out, E57.out, hv, if_false, Bool.false_eq_true]) (K58.out.mv.trans m))⟩
        | ok p =>
          obtain ⟨sq, tp60⟩ := p
          rw [hv] at h
          obtain ⟨⟨v, rfl, hl⟩, rr, mm⟩ := of_ok h
          obtain ⟨A6, kA6, rfl, hts⟩ := row_open hl
          have G61 := Lib.hid (G53.out.sub (HFF.out _ _ _ hv).1)
          have L62 := Lib.hid (((HFF.out _ _ _ hv).1).trans L54.out)
          have K63 := Lib.hid (K58.out.next rr mm)
          have O64 := Lib.hid (O59.out.next mm K58.out.rb)
          have O65 := Lib.hid (Ov.of hts K58.out.blt)
          have E66 := Lib.hid hv
          clear rr mm hv hl hts h
          obtain ⟨y0, y1, y2, y3, y4, y5, y6, yz⟩ := seven_cells K63.out.loc
          have yf0 := yz 0
          have yf1 := yz 1
          have yf2 := yz 2
          have yf3 := yz 3
          have yf4 := yz 4
          have yf5 := yz 5
          have yf6 := yz 6
          clear yz
          obtain ⟨x0, x1, x2, x3, x4, x5, x6, xz⟩ := seven_cells K63.out.res
          have xf0 := xz 0
          have xf1 := xz 1
          have xf2 := xz 2
          have xf3 := xz 3
          have xf4 := xz 4
          have xf5 := xz 5
          have xf6 := xz 6
          clear xz
          go_wp2_with fail
          clear y0 y1 y2 y3 y4 y5 y6 yf0 yf1 yf2 yf3 yf4 yf5 yf6 x0 x1 x2 x3 x4 x5 x6 xf0 xf1 xf2 xf3 xf4 xf5 xf6
          have K67 : Hid (S1 w r (w60.setCell ⟨w.heap.size + 1, 6, none⟩ (.slice A6 (encSL sq).len kA6)) _ (w.heap.size + 1) (.cells #[.int .i64 2, .string ⟨#[]⟩, .string ⟨#[]⟩, .slice none 0 0, .slice A4 (rowOf encD ds).len kA4, .string ⟨#[]⟩, .slice A6 (encSL sq).len kA6] 72 (0, 0)) _ d) := Lib.hid (K63.out.put 6 (.slice A6 (encSL sq).len kA6))
          have O68 : Hid (Ov (w.heap.size + 1) (w60.setCell ⟨w.heap.size + 1, 6, none⟩ (.slice A6 (encSL sq).len kA6)) _ _) := Lib.hid (O64.out.put (i := 6) (v := .slice A6 (encSL sq).len kA6) (Nat.le_refl _))
          have O69 : Hid (Ov (w.heap.size + 1) (w60.setCell ⟨w.heap.size + 1, 6, none⟩ (.slice A6 (encSL sq).len kA6)) _ _) := Lib.hid (O65.out.put (i := 6) (v := .slice A6 (encSL sq).len kA6) (Nat.le_refl _))
          obtain ⟨f1, f2, f3⟩ := S1.fin (ys := [.int .i64 0, .string ⟨#[]⟩, .string ⟨#[]⟩, .slice none 0 0, .slice none 0 0, .string ⟨#[]⟩, .slice none 0 0]) K67.out [.int .i64 2, .string ⟨#[]⟩, .string ⟨#[]⟩, .slice none 0 0, .slice A4 (rowOf encD ds).len kA4, .string ⟨#[]⟩, .slice A6 (encSL sq).len kA6] rfl
          have Fd := O68.out.fin (w := w) (Nat.le_of_lt K67.out.bl) [.int .i64 2, .string ⟨#[]⟩, .string ⟨#[]⟩, .slice none 0 0, .slice A4 (rowOf encD ds).len kA4, .string ⟨#[]⟩, .slice A6 (encSL sq).len kA6]
          have Fs := O69.out.fin (w := w) (Nat.le_of_lt K67.out.bl) [.int .i64 2, .string ⟨#[]⟩, .string ⟨#[]⟩, .slice none 0 0, .slice A4 (rowOf encD ds).len kA4, .string ⟨#[]⟩, .slice A6 (encSL sq).len kA6]
          have FP := HQ.out _ _ (post_ok (a := .mk 2 eB eB .nil ds eB sq) (by simp only [spreadR, inlineR, E31.out, E51.out, E57.out, E66.out, if_false, Bool.false_eq_true]) ⟨[.int .i64 2, .string ⟨#[]⟩, .string ⟨#[]⟩, .slice none 0 0, .slice A4 (rowOf encD ds).len kA4, .string ⟨#[]⟩, .slice A6 (encSL sq).len kA6], rfl, (by rw [encS]; exact TS.int (TS.str (Nat.zero_le _) (TS.str (Nat.zero_le _) (TS.row (show TP _ _ (.row (encM .nil)) _ by rw [encM]; exact TP.none _ _) (TS.row Fd (TS.str (Nat.zero_le _) (TS.row Fs (TS.nil _ _))))))))⟩ f2 f3)
          exact ret_st rfl rfl rfl f1 Tryz.underlying72 ⟨_, rfl⟩ (by kernel_rfl) FP
end Go.Proofs.YtpkmbhnikilihaaGreatDoor
