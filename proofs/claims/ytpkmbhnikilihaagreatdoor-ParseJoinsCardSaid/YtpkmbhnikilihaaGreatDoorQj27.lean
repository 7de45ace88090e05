/- The landed series: api.VarDef. -/
import Derived.Test.YtpkmbhnikilihaaGreatDoorQj25
namespace Go.Proofs.YtpkmbhnikilihaaGreatDoor
open Go.RowKit

theorem info_V : (Tryz.prog.info? 119).map (fun i => (i.zero, i.size, i.bytes)) = some (some (.agg #[.string ⟨#[]⟩, .string ⟨#[]⟩, .int .i64 0, .int .i64 0, .bool false, .int .i64 0, .int .i64 0, .string ⟨#[]⟩, .slice none 0 0, .slice none 0 0]), 10, 136) := by kernel_rfl
set_option maxRecDepth 100000 in
set_option maxHeartbeats 8000000 in
theorem serV_any (one : List Tok → Except Int ((VarT) × List Tok)) (hS : ∀ ts a r, one ts = .ok (a, r) → Sfx r ts) (r d : Nat) (ts : List Tok) (w : World)
    (HC : ∀ tq wx, GoodD tq → tq.length ≤ ts.length → Rd wx r tq d → KRd r wx → NoX r wx → Calls Tryz.prog 176 #[.pointer (some ⟨r, 0, none⟩)] wx (Post r d wx (layS encVar) (one tq)))
    (hG : GoodD ts) (hR : Rd w r ts d) (hK : KRd r w) (hX : NoX r w) : Calls Tryz.prog 175 #[.pointer (some ⟨r, 0, none⟩), .string cpB, .func (.func 176) #[.pointer (some ⟨r, 0, none⟩)] #[]] w (Post r d w (layR (rowOf encVar)) (serR one addL cpB (ts.length + 1) [] ts)) := by
  suffices H : ∀ Q : Ending → World → Prop, (∀ e w', Post r d w (layR (rowOf encVar)) (serR one addL cpB (ts.length + 1) [] ts) e w' → Q e w') → Calls Tryz.prog 175 #[.pointer (some ⟨r, 0, none⟩), .string cpB, .func (.func 176) #[.pointer (some ⟨r, 0, none⟩)] #[]] w Q from H _ (fun _ _ h => h)
  intro Q hQ
  obtain ⟨ti0, hi, hz0, hz1, hz2⟩ := info_parts info_V
  obtain ⟨RES, hRES⟩ : ∃ RES, serR one addL cpB (ts.length + 1) [] ts = RES := ⟨_, rfl⟩
  rw [hRES] at hQ
  have HQ := Lib.hid hQ
  have HRES := Lib.hid hRES
  have HCC := Lib.hid HC
  have HSS := Lib.hid hS
  have hr := hR.lt
  have hlen : ts.length ≤ 200000 := by obtain ⟨_, _, _, _, h, _⟩ := hR; exact h
  have B0 := Lib.hid (And.intro hR (And.intro hK (And.intro hG hX)))
  clear hQ hRES HC hS hG hR hK hX
  go_enter Tryz.func175, Tryz.ntmps175
  go_wp2_with fail
  go_loopg [7] (ts.length + 1) (fun g out wx => ∃ (acc : List VarT) (tq : List Tok), tq.length + 1 ≤ g ∧ tq.length ≤ ts.length ∧ ((rowOf encVar) acc).len + tq.length ≤ 200000 ∧ Aside (RTr 119 10 w.heap.size wx out ((rowOf encVar) acc) ∧ Moved r w wx ∧ Rd wx r tq d ∧ KRd r wx ∧ GoodD tq ∧ NoX r wx ∧ serR one addL cpB g acc tq = RES))
  case atStart => exact ⟨[], ts, Nat.le_refl _, Nat.le_refl _, by rw [show ((rowOf encVar) []).len = 0 from rfl]; omega, vaside ⟨(RTr.start _ _ _ _), Moved.refl _ _, B0.out.1, B0.out.2.1, B0.out.2.2.1, B0.out.2.2.2, HRES.out⟩⟩
  case round =>
    obtain ⟨acc, tq, hq, hql, hal, HA⟩ := hrel
    obtain ⟨hrt, hmx, hrx, hkx, hgx, hxx, hex⟩ := HA.out
    obtain ⟨xs, P, hown, hvals, hP⟩ := hrt
    obtain ⟨Ao, co, rfl⟩ := shape_own hown
    have KX := Lib.hid (And.intro hmx (And.intro hrx (And.intro hkx hxx)))
    have GX := Lib.hid hgx
    have EX := Lib.hid hex
    have HRT := Lib.hid (And.intro hown (And.intro hvals hP))
    clear HA hmx hrx hkx hgx hxx hex hown hvals hP
    cases gk with
    | zero => omega
    | succ g =>
      go_wp2_with fail
      refine (HCC.out tq _ GX.out hql KX.out.2.1 KX.out.2.2.1 KX.out.2.2.2).mono ?_
      intro e w2 h
      cases hv : one tq with
      | error x =>
        rw [hv] at h
        obtain ⟨rfl, m⟩ := of_err h
        exact ⟨rfl, HQ.out _ _ (post_err (by rw [← EX.out, serR, hv]) (KX.out.1.trans m))⟩
      | ok p =>
        obtain ⟨a, tq2⟩ := p
        rw [hv] at h
        obtain ⟨⟨v, rfl, hl⟩, r2, m2⟩ := of_ok h
        obtain ⟨s0, s1, i2, i3, b4, i5, i6, s7, A8, n8, k8, A9, n9, k9, rfl, hts⟩ := var_open hl
        have hsf := HSS.out _ _ _ hv
        have hsl := hsf.2
        have G2 := Lib.hid (GX.out.sub hsf.1)
        have M2 := Lib.hid m2
        have R2 := Lib.hid r2
        have T2 := Lib.hid hts
        have hs2 := m2.size
        have hs0 := KX.out.1.size
        have O2 := Lib.hid (own_moved HRT.out.1 m2 hr)
        have HV := Lib.hid hv
        clear h hv hl hts r2 m2 hsf
        go_wp2_with (at_builtin; refine wpList_append_lies _ rfl _ _ 65 rfl w.heap.size 119 ti0 (.agg #[.string ⟨#[]⟩, .string ⟨#[]⟩, .int .i64 0, .int .i64 0, .bool false, .int .i64 0, .int .i64 0, .string ⟨#[]⟩, .slice none 0 0, .slice none 0 0]) 10 136 Tryz.underlying65 hi hz0 hz1 hz2 rfl (by decide) _ ((rowOf encVar) acc).len xs rfl (own_low O2.out (below_new' _ _)) _ 1 1 [.string s0, .string s1, .int .i64 i2, .int .i64 i3, .bool b4, .int .i64 i5, .int .i64 i6, .string s7, .slice A8 n8 k8, .slice A9 n9 k9] rfl rfl (fun j u hj => World.news_of_block (heap_alloc_new _ _) j u hj) (by intro y hy; simp at hy; rcases hy with rfl | rfl | rfl | rfl | rfl | rfl | rfl | rfl | rfl | rfl <;> rfl) (by decide) (by unfold maxLen; omega) (by omega) (by simp; omega) _ rfl ?_; intro gg cap2 w4 hown4 hgrow hat hlt4; have HG4 := Lib.hid hgrow; have HO4 := Lib.hid hown4; have HT4 := Lib.hid hat; clear hgrow hown4 hat)
        have hgk := grown_keep HG4.out (r := r) (fun b hb => by have := (HRT.out.1.lt b hb).1; omega)
        have R4 := Lib.hid (hgk.1 _ _ (R2.out.below (below_new' _ _)))
        have D4 := Lib.hid (hgk.2 ((KX.out.2.2.1.moved M2.out).moved (Moved.of_below (below_new' _ _))))
        have M4 := Lib.hid (show Moved r w w4 from by
          have m := (KX.out.1.trans M2.out).trans (Moved.of_below (below_new' _ (.cells #[.string s0, .string s1, .int .i64 i2, .int .i64 i3, .bool b4, .int .i64 i5, .int .i64 i6, .string s7, .slice A8 n8 k8, .slice A9 n9 k9] 119)))
          exact ⟨HG4.out.os.trans m.os, HG4.out.tape.trans m.tape, HG4.out.output.trans m.output, Nat.le_trans m.size HG4.out.size, fun k hk hn => (HG4.out.block k (Nat.lt_of_lt_of_le hk m.size) (fun e => by have := (HRT.out.1.lt k e.symm).1; omega)).trans (m.block k hk hn)⟩)
        have X4 := Lib.hid (show NoX r w4 from trivial)
        have T4 := Lib.hid (RTr.app hr (by omega) HRT.out.1 HRT.out.2.1 HRT.out.2.2 M2.out (TS.keep (fun _ hk => ⟨⟨hk.1, hk.2⟩, rfl⟩) _ _ T2.out) HO4.out HG4.out HT4.out)
        clear hgk
        go_wp2_with fail
        refine (skip_any r tq2 d 1 cpB _ R4.out).mono ?_
        intro e w5 h5
        have hE := EX.out
        rw [serR, HV.out] at hE
        simp only at hE
        cases hb : atB 1 cpB tq2 with
        | true =>
          rw [hb] at h5 hE
          obtain ⟨rfl, r5, m5⟩ := h5
          rw [skip_yes hb] at r5
          simp only [if_true] at hE
          have T5 := Lib.hid ((T4.out.moved m5 hr).fin (by rw [TrL.snoc_len]; omega))
          have R5 := Lib.hid r5
          have M5 := Lib.hid (M4.out.trans m5)
          have E5 := Lib.hid hE
          clear r5 m5 hE hb
          go_wp2_with fail
          exact HQ.out _ _ (post_ok E5.out.symm (show TP _ _ (.row ((rowOf encVar) (addL acc a))) _ by rw [show (rowOf encVar) (addL acc a) = ((rowOf encVar) acc).snoc (encVar a) from rowOf_snoc _ _ _]; exact T5.out) R5.out M5.out)
        | false =>
          rw [hb] at h5 hE
          obtain ⟨rfl, r5, m5⟩ := h5
          rw [skip_no hb] at r5
          simp only [Bool.false_eq_true, if_false] at hE
          have T5 := Lib.hid (T4.out.moved m5 hr)
          have R5 := Lib.hid r5
          have M5 := Lib.hid (M4.out.trans m5)
          have X5 := Lib.hid (X4.out.moved m5)
          have D5 := Lib.hid (D4.out.moved m5)
          have E5 := Lib.hid hE
          clear r5 m5 hE hb
          go_wp2_with fail
          go_roundg g
          case measure => omega
          case rel => exact ⟨addL acc a, tq2, by omega, by omega, by rw [show (rowOf encVar) (addL acc a) = ((rowOf encVar) acc).snoc (encVar a) from rowOf_snoc _ _ _, TrL.snoc_len]; omega, vaside ⟨by rw [show (rowOf encVar) (addL acc a) = ((rowOf encVar) acc).snoc (encVar a) from rowOf_snoc _ _ _]; exact T5.out, M5.out, R5.out, D5.out, G2.out, X5.out, E5.out⟩⟩
end Go.Proofs.YtpkmbhnikilihaaGreatDoor
/- The landed series: api.Sel. -/
namespace Go.Proofs.YtpkmbhnikilihaaGreatDoor
open Go.RowKit

theorem info_S : (Tryz.prog.info? 72).map (fun i => (i.zero, i.size, i.bytes)) = some (some (.agg #[.int .i64 0, .string ⟨#[]⟩, .string ⟨#[]⟩, .slice none 0 0, .slice none 0 0, .string ⟨#[]⟩, .slice none 0 0]), 7, 128) := by kernel_rfl
set_option maxRecDepth 100000 in
set_option maxHeartbeats 8000000 in
theorem serS_any (one : List Tok → Except Int ((SelT) × List Tok)) (hS : ∀ ts a r, one ts = .ok (a, r) → Sfx r ts) (r d : Nat) (ts : List Tok) (w : World)
    (HC : ∀ tq wx, GoodD tq → tq.length ≤ ts.length → Rd wx r tq d → KRd r wx → NoX r wx → Calls Tryz.prog 172 #[.pointer (some ⟨r, 0, none⟩)] wx (Post r d wx (layS encS) (one tq)))
    (hG : GoodD ts) (hR : Rd w r ts d) (hK : KRd r w) (hX : NoX r w) : Calls Tryz.prog 171 #[.pointer (some ⟨r, 0, none⟩), .string cmB, .func (.func 172) #[.pointer (some ⟨r, 0, none⟩)] #[]] w (Post r d w (layR encSL) (serR one addS cmB (ts.length + 1) .nil ts)) := by
  suffices H : ∀ Q : Ending → World → Prop, (∀ e w', Post r d w (layR encSL) (serR one addS cmB (ts.length + 1) .nil ts) e w' → Q e w') → Calls Tryz.prog 171 #[.pointer (some ⟨r, 0, none⟩), .string cmB, .func (.func 172) #[.pointer (some ⟨r, 0, none⟩)] #[]] w Q from H _ (fun _ _ h => h)
  intro Q hQ
  obtain ⟨ti0, hi, hz0, hz1, hz2⟩ := info_parts info_S
  obtain ⟨RES, hRES⟩ : ∃ RES, serR one addS cmB (ts.length + 1) .nil ts = RES := ⟨_, rfl⟩
  rw [hRES] at hQ
  have HQ := Lib.hid hQ
  have HRES := Lib.hid hRES
  have HCC := Lib.hid HC
  have HSS := Lib.hid hS
  have hr := hR.lt
  have hlen : ts.length ≤ 200000 := by obtain ⟨_, _, _, _, h, _⟩ := hR; exact h
  have B0 := Lib.hid (And.intro hR (And.intro hK (And.intro hG hX)))
  clear hQ hRES HC hS hG hR hK hX
  go_enter Tryz.func171, Tryz.ntmps171
  go_wp2_with fail
  go_loopg [7] (ts.length + 1) (fun g out wx => ∃ (acc : SelL) (tq : List Tok), tq.length + 1 ≤ g ∧ tq.length ≤ ts.length ∧ (encSL acc).len + tq.length ≤ 200000 ∧ Aside (RTr 72 7 w.heap.size wx out (encSL acc) ∧ Moved r w wx ∧ Rd wx r tq d ∧ KRd r wx ∧ GoodD tq ∧ NoX r wx ∧ serR one addS cmB g acc tq = RES))
  case atStart => exact ⟨.nil, ts, Nat.le_refl _, Nat.le_refl _, by rw [show (encSL .nil).len = 0 from (by rw [encSL]; rfl)]; omega, vaside ⟨(by rw [encSL]; exact RTr.start _ _ _ _), Moved.refl _ _, B0.out.1, B0.out.2.1, B0.out.2.2.1, B0.out.2.2.2, HRES.out⟩⟩
  case round =>
    obtain ⟨acc, tq, hq, hql, hal, HA⟩ := hrel
    obtain ⟨hrt, hmx, hrx, hkx, hgx, hxx, hex⟩ := HA.out
    obtain ⟨xs, P, hown, hvals, hP⟩ := hrt
    obtain ⟨Ao, co, rfl⟩ := shape_own hown
    have KX := Lib.hid (And.intro hmx (And.intro hrx (And.intro hkx hxx)))
    have GX := Lib.hid hgx
    have EX := Lib.hid hex
    have HRT := Lib.hid (And.intro hown (And.intro hvals hP))
    clear HA hmx hrx hkx hgx hxx hex hown hvals hP
    cases gk with
    | zero => omega
    | succ g =>
      go_wp2_with fail
      refine (HCC.out tq _ GX.out hql KX.out.2.1 KX.out.2.2.1 KX.out.2.2.2).mono ?_
      intro e w2 h
      cases hv : one tq with
      | error x =>
        rw [hv] at h
        obtain ⟨rfl, m⟩ := of_err h
        exact ⟨rfl, HQ.out _ _ (post_err (by rw [← EX.out, serR, hv]) (KX.out.1.trans m))⟩
      | ok p =>
        obtain ⟨a, tq2⟩ := p
        rw [hv] at h
        obtain ⟨⟨v, rfl, hl⟩, r2, m2⟩ := of_ok h
        obtain ⟨i0, s1, s2, A3, n3, k3, A4, n4, k4, s5, A6, n6, k6, rfl, hts⟩ := sel_open hl
        have hsf := HSS.out _ _ _ hv
        have hsl := hsf.2
        have G2 := Lib.hid (GX.out.sub hsf.1)
        have M2 := Lib.hid m2
        have R2 := Lib.hid r2
        have T2 := Lib.hid hts
        have hs2 := m2.size
        have hs0 := KX.out.1.size
        have O2 := Lib.hid (own_moved HRT.out.1 m2 hr)
        have HV := Lib.hid hv
        clear h hv hl hts r2 m2 hsf
        go_wp2_with (at_builtin; refine wpList_append_lies _ rfl _ _ 59 rfl w.heap.size 72 ti0 (.agg #[.int .i64 0, .string ⟨#[]⟩, .string ⟨#[]⟩, .slice none 0 0, .slice none 0 0, .string ⟨#[]⟩, .slice none 0 0]) 7 128 Tryz.underlying59 hi hz0 hz1 hz2 rfl (by decide) _ (encSL acc).len xs rfl (own_low O2.out (below_new' _ _)) _ 1 1 [.int .i64 i0, .string s1, .string s2, .slice A3 n3 k3, .slice A4 n4 k4, .string s5, .slice A6 n6 k6] rfl rfl (fun j u hj => World.news_of_block (heap_alloc_new _ _) j u hj) (by intro y hy; simp at hy; rcases hy with rfl | rfl | rfl | rfl | rfl | rfl | rfl <;> rfl) (by decide) (by unfold maxLen; omega) (by omega) (by simp; omega) _ rfl ?_; intro gg cap2 w4 hown4 hgrow hat hlt4; have HG4 := Lib.hid hgrow; have HO4 := Lib.hid hown4; have HT4 := Lib.hid hat; clear hgrow hown4 hat)
        have hgk := grown_keep HG4.out (r := r) (fun b hb => by have := (HRT.out.1.lt b hb).1; omega)
        have R4 := Lib.hid (hgk.1 _ _ (R2.out.below (below_new' _ _)))
        have D4 := Lib.hid (hgk.2 ((KX.out.2.2.1.moved M2.out).moved (Moved.of_below (below_new' _ _))))
        have M4 := Lib.hid (show Moved r w w4 from by
          have m := (KX.out.1.trans M2.out).trans (Moved.of_below (below_new' _ (.cells #[.int .i64 i0, .string s1, .string s2, .slice A3 n3 k3, .slice A4 n4 k4, .string s5, .slice A6 n6 k6] 72)))
          exact ⟨HG4.out.os.trans m.os, HG4.out.tape.trans m.tape, HG4.out.output.trans m.output, Nat.le_trans m.size HG4.out.size, fun k hk hn => (HG4.out.block k (Nat.lt_of_lt_of_le hk m.size) (fun e => by have := (HRT.out.1.lt k e.symm).1; omega)).trans (m.block k hk hn)⟩)
        have X4 := Lib.hid (show NoX r w4 from trivial)
        have T4 := Lib.hid (RTr.app hr (by omega) HRT.out.1 HRT.out.2.1 HRT.out.2.2 M2.out (TS.keep (fun _ hk => ⟨⟨hk.1, hk.2⟩, rfl⟩) _ _ T2.out) HO4.out HG4.out HT4.out)
        clear hgk
        go_wp2_with fail
        refine (skip_any r tq2 d 1 cmB _ R4.out).mono ?_
        intro e w5 h5
        have hE := EX.out
        rw [serR, HV.out] at hE
        simp only at hE
        cases hb : atB 1 cmB tq2 with
        | true =>
          rw [hb] at h5 hE
          obtain ⟨rfl, r5, m5⟩ := h5
          rw [skip_yes hb] at r5
          simp only [if_true] at hE
          have T5 := Lib.hid ((T4.out.moved m5 hr).fin (by rw [TrL.snoc_len]; omega))
          have R5 := Lib.hid r5
          have M5 := Lib.hid (M4.out.trans m5)
          have E5 := Lib.hid hE
          clear r5 m5 hE hb
          go_wp2_with fail
          exact HQ.out _ _ (post_ok E5.out.symm (show TP _ _ (.row (encSL (addS acc a))) _ by rw [show encSL (addS acc a) = (encSL acc).snoc (encS a) from encSL_snoc _ _]; exact T5.out) R5.out M5.out)
        | false =>
          rw [hb] at h5 hE
          obtain ⟨rfl, r5, m5⟩ := h5
          rw [skip_no hb] at r5
          simp only [Bool.false_eq_true, if_false] at hE
          have T5 := Lib.hid (T4.out.moved m5 hr)
          have R5 := Lib.hid r5
          have M5 := Lib.hid (M4.out.trans m5)
          have X5 := Lib.hid (X4.out.moved m5)
          have D5 := Lib.hid (D4.out.moved m5)
          have E5 := Lib.hid hE
          clear r5 m5 hE hb
          go_wp2_with fail
          go_roundg g
          case measure => omega
          case rel => exact ⟨addS acc a, tq2, by omega, by omega, by rw [show encSL (addS acc a) = (encSL acc).snoc (encS a) from encSL_snoc _ _, TrL.snoc_len]; omega, vaside ⟨by rw [show encSL (addS acc a) = (encSL acc).snoc (encS a) from encSL_snoc _ _]; exact T5.out, M5.out, R5.out, D5.out, G2.out, X5.out, E5.out⟩⟩
end Go.Proofs.YtpkmbhnikilihaaGreatDoor
/- Readers of tokens as plain functions: what is read hangs on what is read, and on the token behind it; a text that is cut off within ends there. -/
namespace Go.Proofs.YtpkmbhnikilihaaGreatDoor

/-- The text ends here. -/
def Ends {α : Type} (R : Except Int (α × List Tok)) : Prop := R = .error 2 ∨ ∃ a, R = .ok (a, [])
abbrev Rdr (α : Type) := List Tok → Except Int (α × List Tok)
/-- The end of a text is left. -/
def Suf {α : Type} (p : Rdr α) : Prop := ∀ ts a r, p ts = .ok (a, r) → r <:+ ts
def Str {α : Type} (p : Rdr α) : Prop := ∀ ts a r, p ts = .ok (a, r) → Sfx r ts
theorem Str.suf {α : Type} {p : Rdr α} (h : Str p) : Suf p := fun ts a r e => (h ts a r e).1
/-- Up to n tokens: the token behind decides alone; cut off, the text ends. -/
structure ParN {α : Type} (n : Nat) (p : Rdr α) : Prop where
  loc : ∀ pre rest a, pre.length ≤ n → p (pre ++ rest) = .ok (a, rest) → ∀ rest', rest'.head? = rest.head? → p (pre ++ rest') = .ok (a, rest')
  cut : ∀ pre rest a, pre.length ≤ n → p (pre ++ rest) = .ok (a, rest) → ∀ c, c <+: pre → Ends (p c)
def Nil {α : Type} (p : Rdr α) : Prop := Ends (p [])
theorem ParN.less {α : Type} {n m : Nat} {p : Rdr α} (h : ParN n p) (hm : m ≤ n) : ParN m p :=
  ⟨fun pre rest a hl => h.loc pre rest a (Nat.le_trans hl hm), fun pre rest a hl => h.cut pre rest a (Nat.le_trans hl hm)⟩
theorem sfx_app {r ts : List Tok} (h : r <:+ ts) : ∃ pre, ts = pre ++ r := by
  obtain ⟨p, h⟩ := h; exact ⟨p, h.symm⟩
theorem head_app {pre r r' : List Tok} (h : r'.head? = r.head?) : (pre ++ r').head? = (pre ++ r).head? := by
  cases pre with
  | nil => exact h
  | cons t pre => rfl
theorem at_head {k : Int} {s : ByteArray} {r r' : List Tok} (h : r'.head? = r.head?) : atB k s r' = atB k s r := by
  cases r with
  | nil => cases r' with
    | nil => rfl
    | cons t r' => simp at h
  | cons u r => cases r' with
    | nil => simp at h
    | cons t r' => simp at h; subst h; rfl
theorem par_err {α : Type} (n : Nat) (x : Int) : ParN n (fun _ => (.error x : Except Int (α × List Tok))) := ⟨fun _ _ _ _ h => (by cases h), fun _ _ _ _ h => (by cases h)⟩
theorem app_self {pre rest : List Tok} (h : pre ++ rest = rest) : pre = [] := by
  have := congrArg List.length h
  rw [List.length_append] at this
  exact List.eq_nil_of_length_eq_zero (by omega)
theorem par_ret {α : Type} (n : Nat) (a : α) : ParN n (fun ts => .ok (a, ts)) := by
  refine ⟨fun pre rest b _ h rest' _ => ?_, fun pre rest b _ h c hc => ?_⟩
  · obtain ⟨e1, e2⟩ := Prod.mk.inj (Except.ok.inj h)
    subst e1
    rw [app_self e2]; rfl
  · obtain ⟨_, e2⟩ := Prod.mk.inj (Except.ok.inj h)
    rw [app_self e2] at hc
    rw [List.prefix_nil.1 hc]
    exact .inr ⟨_, rfl⟩
theorem nil_ret {α : Type} (a : α) : Nil (fun ts => .ok (a, ts)) := .inr ⟨_, rfl⟩
theorem nil_err {α : Type} : Nil (fun _ => (.error 2 : Except Int (α × List Tok))) := .inl rfl
def bindR {α β : Type} (p : Rdr α) (q : α → Rdr β) : Rdr β := fun ts => match p ts with | .error x => .error x | .ok (a, r) => q a r
theorem bind_ok {α β : Type} {p : Rdr α} {q : α → Rdr β} {ts r : List Tok} {b : β} (h : bindR p q ts = .ok (b, r)) : ∃ a r1, p ts = .ok (a, r1) ∧ q a r1 = .ok (b, r) := by
  unfold bindR at h
  cases hp : p ts with
  | error x => rw [hp] at h; cases h
  | ok z => obtain ⟨a, r1⟩ := z; rw [hp] at h; exact ⟨a, r1, rfl, h⟩
theorem suf_bind {α β : Type} {p : Rdr α} {q : α → Rdr β} (hp : Suf p) (hq : ∀ a, Suf (q a)) : Suf (bindR p q) := fun ts b r h => by
  obtain ⟨a, r1, h1, h2⟩ := bind_ok h
  exact (hq a _ _ _ h2).trans (hp _ _ _ h1)
/-- One behind the other; the first one takes something. -/
theorem par_bind' {α β : Type} {n : Nat} {p : Rdr α} {q : α → Rdr β} (sp : Str p) (sq : ∀ a, Suf (q a)) (hp : ParN n p) (hq : ∀ a m, m < n → ParN m (q a)) (zq : ∀ a, Nil (q a)) : ParN n (bindR p q) := by
  have split : ∀ pre rest b, pre.length ≤ n → bindR p q (pre ++ rest) = .ok (b, rest) → ∃ a p1 p2, pre = p1 ++ p2 ∧ p2.length < n ∧ p1.length ≤ n ∧ p (p1 ++ (p2 ++ rest)) = .ok (a, p2 ++ rest) ∧ q a (p2 ++ rest) = .ok (b, rest) := by
    intro pre rest b hl h
    obtain ⟨a, r1, h1, h2⟩ := bind_ok h
    obtain ⟨p2, e2⟩ := sfx_app (sq a _ _ _ h2)
    subst e2
    obtain ⟨p1, e1⟩ := sfx_app (sp _ _ _ h1).1
    have e := e1
    rw [← List.append_assoc] at e
    have e := List.append_cancel_right e
    have hs := (sp _ _ _ h1).2
    rw [e1] at h1 hs
    have hlen : pre.length = p1.length + p2.length := by rw [e, List.length_append]
    simp only [List.length_append] at hs
    exact ⟨a, p1, p2, e, by omega, by omega, h1, h2⟩
  refine ⟨fun pre rest b hl h rest' hr => ?_, fun pre rest b hl h c hc => ?_⟩
  · obtain ⟨a, p1, p2, rfl, l2, l1, h1, h2⟩ := split pre rest b hl h
    have e1 := hp.loc p1 _ a l1 h1 (p2 ++ rest') (head_app hr)
    have e2 := (hq a _ l2).loc p2 rest b (Nat.le_refl _) h2 rest' hr
    rw [List.append_assoc]
    unfold bindR
    rw [e1]; exact e2
  · obtain ⟨a, p1, p2, rfl, l2, l1, h1, h2⟩ := split pre rest b hl h
    by_cases hcl : c.length ≤ p1.length
    · have hc1 : c <+: p1 := List.prefix_of_prefix_length_le hc (List.prefix_append _ _) hcl
      rcases hp.cut p1 _ a l1 h1 c hc1 with e | ⟨a', e⟩
      · exact .inl (by unfold bindR; rw [e])
      · have := zq a'
        unfold bindR
        unfold Ends
        rw [e]; exact this
    · obtain ⟨c2, rfl⟩ : ∃ c2, c = p1 ++ c2 := by
        have : p1 <+: c := List.prefix_of_prefix_length_le (List.prefix_append _ _) hc (by omega)
        obtain ⟨c2, e⟩ := this
        exact ⟨c2, e.symm⟩
      have hc2 : c2 <+: p2 := (List.prefix_append_right_inj p1).1 hc
      have hh : c2.head? = (p2 ++ rest).head? := by
        cases c2 with
        | nil => simp at hcl
        | cons t c2 =>
          obtain ⟨z, hz⟩ := hc2
          rw [← hz]; rfl
      have e1 := hp.loc p1 _ a l1 h1 c2 hh
      have := (hq a _ l2).cut p2 rest b (Nat.le_refl _) h2 c2 hc2
      unfold bindR
      rw [e1]; exact this
theorem par_bind {α β : Type} {n : Nat} {p : Rdr α} {q : α → Rdr β} (sp : Suf p) (sq : ∀ a, Suf (q a)) (hp : ParN n p) (hq : ∀ a, ParN n (q a)) (zq : ∀ a, Nil (q a)) : ParN n (bindR p q) := by
  have split : ∀ pre rest b, pre.length ≤ n → bindR p q (pre ++ rest) = .ok (b, rest) → ∃ a p1 p2, pre = p1 ++ p2 ∧ p2.length ≤ n ∧ p1.length ≤ n ∧ p (p1 ++ (p2 ++ rest)) = .ok (a, p2 ++ rest) ∧ q a (p2 ++ rest) = .ok (b, rest) := by
    intro pre rest b hl h
    obtain ⟨a, r1, h1, h2⟩ := bind_ok h
    obtain ⟨p2, e2⟩ := sfx_app (sq a _ _ _ h2)
    subst e2
    obtain ⟨p1, e1⟩ := sfx_app (sp _ _ _ h1)
    have e := e1
    rw [← List.append_assoc] at e
    have e := List.append_cancel_right e
    rw [e1] at h1
    have hlen : pre.length = p1.length + p2.length := by rw [e, List.length_append]
    exact ⟨a, p1, p2, e, by omega, by omega, h1, h2⟩
  refine ⟨fun pre rest b hl h rest' hr => ?_, fun pre rest b hl h c hc => ?_⟩
  · obtain ⟨a, p1, p2, rfl, l2, l1, h1, h2⟩ := split pre rest b hl h
    have e1 := hp.loc p1 _ a l1 h1 (p2 ++ rest') (head_app hr)
    have e2 := (hq a).loc p2 rest b l2 h2 rest' hr
    rw [List.append_assoc]
    unfold bindR
    rw [e1]; exact e2
  · obtain ⟨a, p1, p2, rfl, l2, l1, h1, h2⟩ := split pre rest b hl h
    by_cases hcl : c.length ≤ p1.length
    · have hc1 : c <+: p1 := List.prefix_of_prefix_length_le hc (List.prefix_append _ _) hcl
      rcases hp.cut p1 _ a l1 h1 c hc1 with e | ⟨a', e⟩
      · exact .inl (by unfold bindR; rw [e])
      · have := zq a'
        unfold bindR
        unfold Ends
        rw [e]; exact this
    · obtain ⟨c2, rfl⟩ : ∃ c2, c = p1 ++ c2 := by
        have : p1 <+: c := List.prefix_of_prefix_length_le (List.prefix_append _ _) hc (by omega)
        obtain ⟨c2, e⟩ := this
        exact ⟨c2, e.symm⟩
      have hc2 : c2 <+: p2 := (List.prefix_append_right_inj p1).1 hc
      have hh : c2.head? = (p2 ++ rest).head? := by
        cases c2 with
        | nil => simp at hcl
        | cons t c2 =>
          obtain ⟨z, hz⟩ := hc2
          rw [← hz]; rfl
      have e1 := hp.loc p1 _ a l1 h1 c2 hh
      have := (hq a).cut p2 rest b l2 h2 c2 hc2
      unfold bindR
      rw [e1]; exact this
theorem nil_bind {α β : Type} {p : Rdr α} {q : α → Rdr β} (zp : Nil p) (zq : ∀ a, Nil (q a)) : Nil (bindR p q) := by
  rcases zp with e | ⟨a, e⟩
  · exact .inl (by unfold bindR; rw [e])
  · have := zq a
    unfold Nil Ends bindR
    rw [e]; exact this
/-- If this token comes: behind it; else. -/
def ifR {α : Type} (k : Int) (s : ByteArray) (p q : Rdr α) : Rdr α := fun ts => if atB k s ts = true then p ts.tail else q ts
theorem suf_if {α : Type} {k : Int} {s : ByteArray} {p q : Rdr α} (hp : Suf p) (hq : Suf q) : Suf (ifR k s p q) := fun ts a r h => by
  unfold ifR at h
  split at h
  · rename_i ha; exact (hp _ _ _ h).trans (at_sfx ha).1
  · exact hq _ _ _ h
theorem str_if {α : Type} {k : Int} {s : ByteArray} {p q : Rdr α} (hp : Suf p) (hq : Str q) : Str (ifR k s p q) := fun ts a r h => by
  unfold ifR at h
  split at h
  · rename_i ha; exact Sfx.of (hp _ _ _ h) (at_sfx ha)
  · exact hq _ _ _ h
theorem par_if {α : Type} {n : Nat} {k : Int} {s : ByteArray} {p q : Rdr α} (sp : Suf p) (hp : ∀ m, m < n → ParN m p) (hq : ParN n q) (zq : Nil q) : ParN n (ifR k s p q) := by
  have zz : Ends (ifR k s p q []) := by unfold ifR; rw [if_neg (by simp [atB])]; exact zq
  have key : ∀ pre rest a, atB k s (pre ++ rest) = true → p (pre ++ rest).tail = .ok (a, rest) → ∃ t p1, pre = t :: p1 := by
    intro pre rest a ha h
    cases pre with
    | cons t p1 => exact ⟨t, p1, rfl⟩
    | nil =>
      have h1 := (sp _ _ _ h).length_le
      have h2 := (at_sfx ha).2
      simp only [List.nil_append] at h1 h2
      omega
  refine ⟨fun pre rest a hl h rest' hr => ?_, fun pre rest a hl h c hc => ?_⟩
  · unfold ifR at h ⊢
    rw [at_head (head_app hr)]
    split at h
    · rename_i ha
      obtain ⟨t, p1, rfl⟩ := key pre rest a ha h
      rw [if_pos ha]
      exact (hp p1.length (by simp at hl ⊢; omega)).loc p1 rest a (Nat.le_refl _) h rest' hr
    · rename_i ha
      rw [if_neg ha]
      exact hq.loc pre rest a hl h rest' hr
  · cases c with
    | nil => exact zz
    | cons u c =>
      obtain ⟨z, hz⟩ := hc
      have hh : (u :: c).head? = (pre ++ rest).head? := by rw [← hz]; rfl
      unfold ifR at h ⊢
      rw [at_head hh]
      split at h
      · rename_i ha
        rw [if_pos ha]
        rw [← hz] at h hl
        exact (hp (c ++ z).length (by simp at hl ⊢; omega)).cut (c ++ z) rest a (Nat.le_refl _) h c (List.prefix_append _ _)
      · rename_i ha
        rw [if_neg ha]
        exact hq.cut pre rest a hl h _ ⟨z, hz⟩
theorem nil_if {α : Type} {k : Int} {s : ByteArray} {p q : Rdr α} (zq : Nil q) : Nil (ifR k s p q) := by
  unfold Nil ifR; rw [if_neg (by simp [atB])]; exact zq
/-- The same, and the token is left. -/
def seeR {α : Type} (b : List Tok → Bool) (p q : Rdr α) : Rdr α := fun ts => if b ts = true then p ts else q ts
def Head (b : List Tok → Bool) : Prop := b [] = false ∧ ∀ r r' : List Tok, r'.head? = r.head? → b r' = b r
theorem head_at (k : Int) (s : ByteArray) : Head (atB k s) := ⟨rfl, fun _ _ h => at_head h⟩
theorem suf_see {α : Type} {b : List Tok → Bool} {p q : Rdr α} (hp : Suf p) (hq : Suf q) : Suf (seeR b p q) := fun ts a r h => by
  unfold seeR at h
  split at h
  · exact hp _ _ _ h
  · exact hq _ _ _ h
theorem str_see {α : Type} {b : List Tok → Bool} {p q : Rdr α} (hp : Str p) (hq : Str q) : Str (seeR b p q) := fun ts a r h => by
  unfold seeR at h
  split at h
  · exact hp _ _ _ h
  · exact hq _ _ _ h
theorem par_see {α : Type} {n : Nat} {b : List Tok → Bool} {p q : Rdr α} (hb : Head b) (hp : ParN n p) (hq : ParN n q) (zq : Nil q) : ParN n (seeR b p q) := by
  refine ⟨fun pre rest a hl h rest' hr => ?_, fun pre rest a hl h c hc => ?_⟩
  · unfold seeR at h ⊢
    rw [hb.2 _ _ (head_app hr)]
    split at h
    · rename_i ha; rw [if_pos ha]; exact hp.loc pre rest a hl h rest' hr
    · rename_i ha; rw [if_neg ha]; exact hq.loc pre rest a hl h rest' hr
  · cases c with
    | nil => unfold seeR; rw [if_neg (by rw [hb.1]; simp)]; exact zq
    | cons u c =>
      obtain ⟨z, hz⟩ := hc
      have hh : (u :: c).head? = (pre ++ rest).head? := by rw [← hz]; rfl
      unfold seeR at h ⊢
      rw [hb.2 _ _ hh]
      split at h
      · rename_i ha; rw [if_pos ha]; exact hp.cut pre rest a hl h _ ⟨z, hz⟩
      · rename_i ha; rw [if_neg ha]; exact hq.cut pre rest a hl h _ ⟨z, hz⟩
theorem nil_see {α : Type} {b : List Tok → Bool} {p q : Rdr α} (hb : Head b) (zq : Nil q) : Nil (seeR b p q) := by
  unfold Nil seeR; rw [if_neg (by rw [hb.1]; simp)]; exact zq
/-- A name. -/
def nmR {α : Type} (p : ByteArray → Rdr α) (q : Rdr α) : Rdr α := fun ts => match nameR ts with | none => q ts | some (n, r) => p n r
theorem name_cons (t : Tok) (ts : List Tok) : nameR (t :: ts) = if t.1 = 2 then some (t.2, ts) else none := rfl
theorem suf_nm {α : Type} {p : ByteArray → Rdr α} {q : Rdr α} (hp : ∀ n, Suf (p n)) (hq : Suf q) : Suf (nmR p q) := fun ts a r h => by
  unfold nmR at h
  cases hn : nameR ts with
  | none => rw [hn] at h; exact hq _ _ _ h
  | some z => obtain ⟨n, r1⟩ := z; rw [hn] at h; exact (hp n _ _ _ h).trans (name_sfx hn).1
theorem str_nm {α : Type} {p : ByteArray → Rdr α} {q : Rdr α} (hp : ∀ n, Suf (p n)) (hq : Str q) : Str (nmR p q) := fun ts a r h => by
  unfold nmR at h
  cases hn : nameR ts with
  | none => rw [hn] at h; exact hq _ _ _ h
  | some z => obtain ⟨n, r1⟩ := z; rw [hn] at h; exact Sfx.of (hp n _ _ _ h) (name_sfx hn)
theorem par_nm {α : Type} {m : Nat} {p : ByteArray → Rdr α} {q : Rdr α} (sp : ∀ n, Suf (p n)) (hp : ∀ n k, k < m → ParN k (p n)) (hq : ParN m q) (zq : Nil q) : ParN m (nmR p q) := by
  refine ⟨fun pre rest a hl h rest' hr => ?_, fun pre rest a hl h c hc => ?_⟩
  · cases pre with
    | nil =>
      cases rest with
      | nil =>
        cases rest' with
        | nil => exact h
        | cons t r => simp at hr
      | cons t r =>
        cases rest' with
        | nil => simp at hr
        | cons u r' =>
          simp at hr
          subst hr
          unfold nmR at h ⊢
          simp only [List.nil_append, name_cons] at h ⊢
          by_cases ht : u.1 = 2
          · rw [if_pos ht] at h
            have := (sp _ _ _ _ h).length_le
            simp at this
            omega
          · rw [if_neg ht] at h ⊢
            exact hq.loc [] (u :: r) a (by simp) h (u :: r') rfl
    | cons t pre =>
      unfold nmR at h ⊢
      simp only [List.cons_append, name_cons] at h ⊢
      by_cases ht : t.1 = 2
      · rw [if_pos ht] at h ⊢
        exact (hp _ pre.length (by simp at hl ⊢; omega)).loc pre rest a (Nat.le_refl _) h rest' hr
      · rw [if_neg ht] at h ⊢
        exact hq.loc (t :: pre) rest a hl h rest' hr
  · cases c with
    | nil => exact zq
    | cons u c =>
      obtain ⟨z, hz⟩ := hc
      subst hz
      unfold nmR at h ⊢
      simp only [List.cons_append, name_cons] at h ⊢
      by_cases ht : u.1 = 2
      · rw [if_pos ht] at h ⊢
        exact (hp _ (c ++ z).length (by simp at hl ⊢; omega)).cut (c ++ z) rest a (Nat.le_refl _) h c (List.prefix_append _ _)
      · rw [if_neg ht] at h ⊢
        exact hq.cut (u :: (c ++ z)) rest a hl h (u :: c) ⟨z, rfl⟩
theorem nil_nm {α : Type} {p : ByteArray → Rdr α} {q : Rdr α} (zq : Nil q) : Nil (nmR p q) := zq
/-- Whatever comes behind, up to n tokens. -/
def Free {α : Type} (n : Nat) (p : Rdr α) : Prop := ∀ pre rest a, pre.length ≤ n → p (pre ++ rest) = .ok (a, rest) → ∀ rest', p (pre ++ rest') = .ok (a, rest')
theorem free_ret {α : Type} (n : Nat) (a : α) : Free n (fun ts => .ok (a, ts)) := fun pre rest b _ h rest' => by
  obtain ⟨e1, e2⟩ := Prod.mk.inj (Except.ok.inj h)
  subst e1
  rw [app_self e2]; rfl
theorem free_err {α : Type} (n : Nat) (x : Int) : Free n (fun _ => (.error x : Except Int (α × List Tok))) := fun _ _ _ _ h => by cases h
theorem str_ne {α : Type} {p : Rdr α} (h : Str p) {pre rest : List Tok} {a : α} (e : p (pre ++ rest) = .ok (a, rest)) : ∃ t p1, pre = t :: p1 := by
  cases pre with
  | cons t p1 => exact ⟨t, p1, rfl⟩
  | nil => have := (h _ _ _ e).2; simp at this
theorem free_bind {α β : Type} {n : Nat} {p : Rdr α} {q : α → Rdr β} (sp : Suf p) (sq : ∀ a, Str (q a)) (hp : ∀ n, ParN n p) (hq : ∀ a, Free n (q a)) : Free n (bindR p q) := by
  intro pre rest b hl h rest'
  obtain ⟨a, r1, h1, h2⟩ := bind_ok h
  obtain ⟨p2, e2⟩ := sfx_app (sq a _ _ _ h2).1
  subst e2
  obtain ⟨p1, e1⟩ := sfx_app (sp _ _ _ h1)
  have e := e1
  rw [← List.append_assoc] at e
  have e := List.append_cancel_right e
  subst e
  rw [e1] at h1
  obtain ⟨t, p3, rfl⟩ := str_ne (sq a) h2
  have e1 := (hp p1.length).loc p1 _ a (Nat.le_refl _) h1 (t :: p3 ++ rest') rfl
  rw [List.append_assoc]
  unfold bindR
  rw [List.length_append] at hl
  rw [e1]; exact hq a _ _ _ (by omega) h2 rest'
theorem free_bind' {α β : Type} {n : Nat} {p : Rdr α} {q : α → Rdr β} (sp : Str p) (sq : ∀ a, Str (q a)) (hp : ∀ n, ParN n p) (hq : ∀ a m, m < n → Free m (q a)) : Free n (bindR p q) := by
  intro pre rest b hl h rest'
  obtain ⟨a, r1, h1, h2⟩ := bind_ok h
  obtain ⟨p2, e2⟩ := sfx_app (sq a _ _ _ h2).1
  subst e2
  obtain ⟨p1, e1⟩ := sfx_app (sp _ _ _ h1).1
  have e := e1
  rw [← List.append_assoc] at e
  have e := List.append_cancel_right e
  subst e
  rw [e1] at h1
  obtain ⟨u, p0, rfl⟩ := str_ne sp h1
  obtain ⟨t, p3, rfl⟩ := str_ne (sq a) h2
  have e1 := (hp (u :: p0).length).loc (u :: p0) _ a (Nat.le_refl _) h1 (t :: p3 ++ rest') rfl
  rw [List.append_assoc]
  unfold bindR
  simp only [List.length_append, List.length_cons] at hl
  rw [e1]; exact hq a (t :: p3).length (by simp only [List.length_cons]; omega) _ _ _ (Nat.le_refl _) h2 rest'
theorem free_if {α : Type} {n : Nat} {k : Int} {s : ByteArray} {p q : Rdr α} (sp : Suf p) (sq : Str q) (hp : ∀ m, m < n → Free m p) (hq : Free n q) : Free n (ifR k s p q) := by
  intro pre rest a hl h rest'
  have st : Str (ifR k s p q) := str_if sp sq
  obtain ⟨t, p1, rfl⟩ := str_ne st h
  unfold ifR at h ⊢
  rw [at_head (r := t :: p1 ++ rest) (r' := t :: p1 ++ rest') rfl]
  split at h
  · rename_i ha; rw [if_pos ha]; exact hp p1.length (by simp at hl ⊢; omega) p1 rest a (Nat.le_refl _) h rest'
  · rename_i ha; rw [if_neg ha]; exact hq _ _ _ hl h rest'
theorem free_see {α : Type} {n : Nat} {b : List Tok → Bool} {p q : Rdr α} (hb : Head b) (sp : Str p) (sq : Str q) (hp : Free n p) (hq : Free n q) : Free n (seeR b p q) := by
  intro pre rest a hl h rest'
  obtain ⟨t, p1, rfl⟩ := str_ne (str_see sp sq) h
  unfold seeR at h ⊢
  rw [hb.2 (t :: p1 ++ rest) (t :: p1 ++ rest') rfl]
  split at h
  · rename_i ha; rw [if_pos ha]; exact hp _ _ _ hl h rest'
  · rename_i ha; rw [if_neg ha]; exact hq _ _ _ hl h rest'
theorem free_nm {α : Type} {n : Nat} {p : ByteArray → Rdr α} {q : Rdr α} (sp : ∀ n, Suf (p n)) (sq : Str q) (hp : ∀ x m, m < n → Free m (p x)) (hq : Free n q) : Free n (nmR p q) := by
  intro pre rest a hl h rest'
  obtain ⟨t, p1, rfl⟩ := str_ne (str_nm sp sq) h
  unfold nmR at h ⊢
  simp only [List.cons_append, name_cons] at h ⊢
  by_cases ht : t.1 = 2
  · rw [if_pos ht] at h ⊢; exact hp _ p1.length (by simp at hl ⊢; omega) p1 rest a (Nat.le_refl _) h rest'
  · rw [if_neg ht] at h ⊢; exact hq (t :: p1) rest a hl h rest'
theorem str_err {α : Type} (x : Int) : Str (fun _ => (.error x : Except Int (α × List Tok))) := fun _ _ _ h => by cases h
theorem suf_ret {α : Type} (a : α) : Suf (fun ts => .ok (a, ts)) := fun ts b r h => by
  obtain ⟨_, e2⟩ := Prod.mk.inj (Except.ok.inj h)
  subst e2; exact List.suffix_refl _
end Go.Proofs.YtpkmbhnikilihaaGreatDoor
