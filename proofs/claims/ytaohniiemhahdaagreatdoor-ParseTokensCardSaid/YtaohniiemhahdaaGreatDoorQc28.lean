/- The landed series: api.VarDef. -/
import Derived.Test.YtaohniiemhahdaaGreatDoorQc26
import Derived.Deep.AppendLies
import Derived.Test.YtaohniiemhahdaaGreatDoorQc17
namespace Go.Proofs.YtaohniiemhahdaaGreatDoor
open Go.RowKit

theorem info_V : (Tryz.prog.info? 133).map (fun i => (i.zero, i.size, i.bytes)) = some (some (.agg #[.string ⟨#[]⟩, .string ⟨#[]⟩, .int .i64 0, .int .i64 0, .bool false, .int .i64 0, .int .i64 0, .string ⟨#[]⟩, .slice none 0 0, .slice none 0 0]), 10, 136) := by kernel_rfl
set_option maxRecDepth 100000 in
set_option maxHeartbeats 8000000 in
theorem serV_any (one : List Tok → Except Int ((VarT) × List Tok)) (hS : ∀ ts a r, one ts = .ok (a, r) → Sfx r ts) (r d : Nat) (ts : List Tok) (w : World)
    (HC : ∀ tq wx, GoodD tq → tq.length ≤ ts.length → Rd wx r tq d → KRd r wx → NoX r wx → Calls Tryz.prog 132 #[.pointer (some ⟨r, 0, none⟩)] wx (Post r d wx (layS encVar) (one tq)))
    (hG : GoodD ts) (hR : Rd w r ts d) (hK : KRd r w) (hX : NoX r w) : Calls Tryz.prog 131 #[.pointer (some ⟨r, 0, none⟩), .string cpB, .func (.func 132) #[.pointer (some ⟨r, 0, none⟩)] #[]] w (Post r d w (layR (rowOf encVar)) (serR one addL cpB (ts.length + 1) [] ts)) := by
  suffices H : ∀ Q : Ending → World → Prop, (∀ e w', Post r d w (layR (rowOf encVar)) (serR one addL cpB (ts.length + 1) [] ts) e w' → Q e w') → Calls Tryz.prog 131 #[.pointer (some ⟨r, 0, none⟩), .string cpB, .func (.func 132) #[.pointer (some ⟨r, 0, none⟩)] #[]] w Q from H _ (fun _ _ h => h)
  intro Q hQ
  obtain ⟨ti0, hi, hz0, hz1, hz2⟩ := info_parts info_V
  obtain ⟨RES, hRES⟩ : ∃ RES, serR one addL cpB (ts.length + 1) [] ts = RES := ⟨_, rfl⟩
  rw [hRES] at hQ
  have HQ := Lib.hid hQ
  have HRES := Lib.hid hRES
  have HCC := Lib.hid HC
  have HSS := Lib.hid hS
  have hr := hR.lt
  have hlen : ts.length ≤ 200000 := by obtain ⟨_, _, _, _, h, _⟩ := hR; exact h
  have B0 := Lib.hid (And.intro hR (And.intro hK (And.intro hG hX)))
  clear hQ hRES HC hS hG hR hK hX
  go_enter Tryz.func131, Tryz.ntmps131
  go_wp2_with fail
  go_loopg [7] (ts.length + 1) (fun g out wx => ∃ (acc : List VarT) (tq : List Tok), tq.length + 1 ≤ g ∧ tq.length ≤ ts.length ∧ ((rowOf encVar) acc).len + tq.length ≤ 200000 ∧ Aside (RTr 133 10 w.heap.size wx out ((rowOf encVar) acc) ∧ Moved r w wx ∧ Rd wx r tq d ∧ KRd r wx ∧ GoodD tq ∧ NoX r wx ∧ serR one addL cpB g acc tq = RES))
  case atStart => exact ⟨[], ts, Nat.le_refl _, Nat.le_refl _, by rw [show ((rowOf encVar) []).len = 0 from rfl]; omega, vaside ⟨(RTr.start _ _ _ _), Moved.refl _ _, B0.out.1, B0.out.2.1, B0.out.2.2.1, B0.out.2.2.2, HRES.out⟩⟩
  case round =>
    obtain ⟨acc, tq, hq, hql, hal, HA⟩ := hrel
    obtain ⟨hrt, hmx, hrx, hkx, hgx, hxx, hex⟩ := HA.out
    obtain ⟨xs, P, hown, hvals, hP⟩ := hrt
    obtain ⟨Ao, co, rfl⟩ := shape_own hown
    have KX := Lib.hid (And.intro hmx (And.intro hrx (And.intro hkx hxx)))
    have GX := Lib.hid hgx
    have EX := Lib.hid hex
    have HRT := Lib.hid (And.intro hown (And.intro hvals hP))
    clear HA hmx hrx hkx hgx hxx hex hown hvals hP
    cases gk with
    | zero => omega
    | succ g =>
      go_wp2_with fail
      refine (HCC.out tq _ GX.out hql KX.out.2.1 KX.out.2.2.1 KX.out.2.2.2).mono ?_
      intro e w2 h
      cases hv : one tq with
      | error x =>
        rw [hv] at h
        obtain ⟨rfl, m⟩ := of_err h
        exact ⟨rfl, HQ.out _ _ (post_err (by rw [← EX.out, serR, hv]) (KX.out.1.trans m))⟩
      | ok p =>
        obtain ⟨a, tq2⟩ := p
        rw [hv] at h
        obtain ⟨⟨v, rfl, hl⟩, r2, m2⟩ := of_ok h
        obtain ⟨s0, s1, i2, i3, b4, i5, i6, s7, A8, n8, k8, A9, n9, k9, rfl, hts⟩ := var_open hl
        have hsf := HSS.out _ _ _ hv
        have hsl := hsf.2
        have G2 := Lib.hid (GX.out.sub hsf.1)
        have M2 := Lib.hid m2
        have R2 := Lib.hid r2
        have T2 := Lib.hid hts
        have hs2 := m2.size
        have hs0 := KX.out.1.size
        have O2 := Lib.hid (own_moved HRT.out.1 m2 hr)
        have HV := Lib.hid hv
        clear h hv hl hts r2 m2 hsf
        go_wp2_with (at_builtin; refine wpList_append_lies _ rfl _ _ 59 rfl w.heap.size 133 ti0 (.agg #[.string ⟨#[]⟩, .string ⟨#[]⟩, .int .i64 0, .int .i64 0, .bool false, .int .i64 0, .int .i64 0, .string ⟨#[]⟩, .slice none 0 0, .slice none 0 0]) 10 136 Tryz.underlying59 hi hz0 hz1 hz2 rfl (by decide) _ ((rowOf encVar) acc).len xs rfl (own_low O2.out (below_new' _ _)) _ 1 1 [.string s0, .string s1, .int .i64 i2, .int .i64 i3, .bool b4, .int .i64 i5, .int .i64 i6, .string s7, .slice A8 n8 k8, .slice A9 n9 k9] rfl rfl (fun j u hj => World.news_of_block (heap_alloc_new _ _) j u hj) (by intro y hy; simp at hy; rcases hy with rfl | rfl | rfl | rfl | rfl | rfl | rfl | rfl | rfl | rfl <;> rfl) (by decide) (by unfold maxLen; omega) (by omega) (by simp; omega) _ rfl ?_; intro gg cap2 w4 hown4 hgrow hat hlt4; have HG4 := Lib.hid hgrow; have HO4 := Lib.hid hown4; have HT4 := Lib.hid hat; clear hgrow hown4 hat)
        have hgk := grown_keep HG4.out (r := r) (fun b hb => by have := (HRT.out.1.lt b hb).1; omega)
        have R4 := Lib.hid (hgk.1 _ _ (R2.out.below (below_new' _ _)))
        have D4 := Lib.hid (hgk.2 ((KX.out.2.2.1.moved M2.out).moved (Moved.of_below (below_new' _ _))))
        have M4 := Lib.hid (show Moved r w w4 from by
          have m := (KX.out.1.trans M2.out).trans (Moved.of_below (below_new' _ (.cells #[.string s0, .string s1, .int .i64 i2, .int .i64 i3, .bool b4, .int .i64 i5, .int .i64 i6, .string s7, .slice A8 n8 k8, .slice A9 n9 k9] 133)))
          exact ⟨HG4.out.os.trans m.os, HG4.out.tape.trans m.tape, HG4.out.output.trans m.output, Nat.le_trans m.size HG4.out.size, fun k hk hn => (HG4.out.block k (Nat.lt_of_lt_of_le hk m.size) (fun e => by have := (HRT.out.1.lt k e.symm).1; omega)).trans (m.block k hk hn)⟩)
        have X4 := Lib.hid (show NoX r w4 from trivial)
        have T4 := Lib.hid (RTr.app hr (by omega) HRT.out.1 HRT.out.2.1 HRT.out.2.2 M2.out (TS.keep (fun _ hk => ⟨⟨hk.1, hk.2⟩, rfl⟩) _ _ T2.out) HO4.out HG4.out HT4.out)
        clear hgk
        go_wp2_with fail
        refine (skip_any r tq2 d 1 cpB _ R4.out).mono ?_
        intro e w5 h5
        have hE := EX.out
        rw [serR, HV.out] at hE
        simp only at hE
        cases hb : atB 1 cpB tq2 with
        | true =>
          rw [hb] at h5 hE
          obtain ⟨rfl, r5, m5⟩ := h5
          rw [skip_yes hb] at r5
          simp only [if_true] at hE
          have T5 := Lib.hid ((T4.out.moved m5 hr).fin (by rw [TrL.snoc_len]; omega))
          have R5 := Lib.hid r5
          have M5 := Lib.hid (M4.out.trans m5)
          have E5 := Lib.hid hE
          clear r5 m5 hE hb
          go_wp2_with fail
          exact HQ.out _ _ (post_ok E5.out.symm (show TP _ _ (.row ((rowOf encVar) (addL acc a))) _ by rw [show (rowOf encVar) (addL acc a) = ((rowOf encVar) acc).snoc (encVar a) from rowOf_snoc _ _ _]; exact T5.out) R5.out M5.out)
        | false =>
          rw [hb] at h5 hE
          obtain ⟨rfl, r5, m5⟩ := h5
          rw [skip_no hb] at r5
          simp only [Bool.false_eq_true, if_false] at hE
          have T5 := Lib.hid (T4.out.moved m5 hr)
          have R5 := Lib.hid r5
          have M5 := Lib.hid (M4.out.trans m5)
          have X5 := Lib.hid (X4.out.moved m5)
          have D5 := Lib.hid (D4.out.moved m5)
          have E5 := Lib.hid hE
          clear r5 m5 hE hb
          go_wp2_with fail
          go_roundg g
          case measure => omega
          case rel => exact ⟨addL acc a, tq2, by omega, by omega, by rw [show (rowOf encVar) (addL acc a) = ((rowOf encVar) acc).snoc (encVar a) from rowOf_snoc _ _ _, TrL.snoc_len]; omega, vaside ⟨by rw [show (rowOf encVar) (addL acc a) = ((rowOf encVar) acc).snoc (encVar a) from rowOf_snoc _ _ _]; exact T5.out, M5.out, R5.out, D5.out, G2.out, X5.out, E5.out⟩⟩
end Go.Proofs.YtaohniiemhahdaaGreatDoor
/- The landed series: api.Sel. -/
namespace Go.Proofs.YtaohniiemhahdaaGreatDoor
open Go.RowKit

theorem info_S : (Tryz.prog.info? 65).map (fun i => (i.zero, i.size, i.bytes)) = some (some (.agg #[.int .i64 0, .string ⟨#[]⟩, .string ⟨#[]⟩, .slice none 0 0, .slice none 0 0, .string ⟨#[]⟩, .slice none 0 0]), 7, 128) := by kernel_rfl
set_option maxRecDepth 100000 in
set_option maxHeartbeats 8000000 in
theorem serS_any (one : List Tok → Except Int ((SelT) × List Tok)) (hS : ∀ ts a r, one ts = .ok (a, r) → Sfx r ts) (r d : Nat) (ts : List Tok) (w : World)
    (HC : ∀ tq wx, GoodD tq → tq.length ≤ ts.length → Rd wx r tq d → KRd r wx → NoX r wx → Calls Tryz.prog 128 #[.pointer (some ⟨r, 0, none⟩)] wx (Post r d wx (layS encS) (one tq)))
    (hG : GoodD ts) (hR : Rd w r ts d) (hK : KRd r w) (hX : NoX r w) : Calls Tryz.prog 127 #[.pointer (some ⟨r, 0, none⟩), .string cmB, .func (.func 128) #[.pointer (some ⟨r, 0, none⟩)] #[]] w (Post r d w (layR encSL) (serR one addS cmB (ts.length + 1) .nil ts)) := by
  suffices H : ∀ Q : Ending → World → Prop, (∀ e w', Post r d w (layR encSL) (serR one addS cmB (ts.length + 1) .nil ts) e w' → Q e w') → Calls Tryz.prog 127 #[.pointer (some ⟨r, 0, none⟩), .string cmB, .func (.func 128) #[.pointer (some ⟨r, 0, none⟩)] #[]] w Q from H _ (fun _ _ h => h)
  intro Q hQ
  obtain ⟨ti0, hi, hz0, hz1, hz2⟩ := info_parts info_S
  obtain ⟨RES, hRES⟩ : ∃ RES, serR one addS cmB (ts.length + 1) .nil ts = RES := ⟨_, rfl⟩
  rw [hRES] at hQ
  have HQ := Lib.hid hQ
  have HRES := Lib.hid hRES
  have HCC := Lib.hid HC
  have HSS := Lib.hid hS
  have hr := hR.lt
  have hlen : ts.length ≤ 200000 := by obtain ⟨_, _, _, _, h, _⟩ := hR; exact h
  have B0 := Lib.hid (And.intro hR (And.intro hK (And.intro hG hX)))
  clear hQ hRES HC hS hG hR hK hX
  go_enter Tryz.func127, Tryz.ntmps127
  go_wp2_with fail
  go_loopg [7] (ts.length + 1) (fun g out wx => ∃ (acc : SelL) (tq : List Tok), tq.length + 1 ≤ g ∧ tq.length ≤ ts.length ∧ (encSL acc).len + tq.length ≤ 200000 ∧ Aside (RTr 65 7 w.heap.size wx out (encSL acc) ∧ Moved r w wx ∧ Rd wx r tq d ∧ KRd r wx ∧ GoodD tq ∧ NoX r wx ∧ serR one addS cmB g acc tq = RES))
  case atStart => exact ⟨.nil, ts, Nat.le_refl _, Nat.le_refl _, by rw [show (encSL .nil).len = 0 from (by rw [encSL]; rfl)]; omega, vaside ⟨(by rw [encSL]; exact RTr.start _ _ _ _), Moved.refl _ _, B0.out.1, B0.out.2.1, B0.out.2.2.1, B0.out.2.2.2, HRES.out⟩⟩
  case round =>
    obtain ⟨acc, tq, hq, hql, hal, HA⟩ := hrel
    obtain ⟨hrt, hmx, hrx, hkx, hgx, hxx, hex⟩ := HA.out
    obtain ⟨xs, P, hown, hvals, hP⟩ := hrt
    obtain ⟨Ao, co, rfl⟩ := shape_own hown
    have KX := Lib.hid (And.intro hmx (And.intro hrx (And.intro hkx hxx)))
    have GX := Lib.hid hgx
    have EX := Lib.hid hex
    have HRT := Lib.hid (And.intro hown (And.intro hvals hP))
    clear HA hmx hrx hkx hgx hxx hex hown hvals hP
    cases gk with
    | zero => omega
    | succ g =>
      go_wp2_with fail
      refine (HCC.out tq _ GX.out hql KX.out.2.1 KX.out.2.2.1 KX.out.2.2.2).mono ?_
      intro e w2 h
      cases hv : one tq with
      | error x =>
        rw [hv] at h
        obtain ⟨rfl, m⟩ := of_err h
        exact ⟨rfl, HQ.out _ _ (post_err (by rw [← EX.out, serR, hv]) (KX.out.1.trans m))⟩
      | ok p =>
        obtain ⟨a, tq2⟩ := p
        rw [hv] at h
        obtain ⟨⟨v, rfl, hl⟩, r2, m2⟩ := of_ok h
        obtain ⟨i0, s1, s2, A3, n3, k3, A4, n4, k4, s5, A6, n6, k6, rfl, hts⟩ := sel_open hl
        have hsf := HSS.out _ _ _ hv
        have hsl := hsf.2
        have G2 := Lib.hid (GX.out.sub hsf.1)
        have M2 := Lib.hid m2
        have R2 := Lib.hid r2
        have T2 := Lib.hid hts
        have hs2 := m2.size
        have hs0 := KX.out.1.size
        have O2 := Lib.hid (own_moved HRT.out.1 m2 hr)
        have HV := Lib.hid hv
        clear h hv hl hts r2 m2 hsf
        go_wp2_with (at_builtin; refine wpList_append_lies _ rfl _ _ 61 rfl w.heap.size 65 ti0 (.agg #[.int .i64 0, .string ⟨#[]⟩, .string ⟨#[]⟩, .slice none 0 0, .slice none 0 0, .string ⟨#[]⟩, .slice none 0 0]) 7 128 Tryz.underlying61 hi hz0 hz1 hz2 rfl (by decide) _ (encSL acc).len xs rfl (own_low O2.out (below_new' _ _)) _ 1 1 [.int .i64 i0, .string s1, .string s2, .slice A3 n3 k3, .slice A4 n4 k4, .string s5, .slice A6 n6 k6] rfl rfl (fun j u hj => World.news_of_block (heap_alloc_new _ _) j u hj) (by intro y hy; simp at hy; rcases hy with rfl | rfl | rfl | rfl | rfl | rfl | rfl <;> rfl) (by decide) (by unfold maxLen; omega) (by omega) (by simp; omega) _ rfl ?_; intro gg cap2 w4 hown4 hgrow hat hlt4; have HG4 := Lib.hid hgrow; have HO4 := Lib.hid hown4; have HT4 := Lib.hid hat; clear hgrow hown4 hat)
        have hgk := grown_keep HG4.out (r := r) (fun b hb => by have := (HRT.out.1.lt b hb).1; omega)
        have R4 := Lib.hid (hgk.1 _ _ (R2.out.below (below_new' _ _)))
        have D4 := Lib.hid (hgk.2 ((KX.out.2.2.1.moved M2.out).moved (Moved.of_below (below_new' _ _))))
        have M4 := Lib.hid (show Moved r w w4 from by
          have m := (KX.out.1.trans M2.out).trans (Moved.of_below (below_new' _ (.cells #[.int .i64 i0, .string s1, .string s2, .slice A3 n3 k3, .slice A4 n4 k4, .string s5, .slice A6 n6 k6] 65)))
          exact ⟨HG4.out.os.trans m.os, HG4.out.tape.trans m.tape, HG4.out.output.trans m.output, Nat.le_trans m.size HG4.out.size, fun k hk hn => (HG4.out.block k (Nat.lt_of_lt_of_le hk m.size) (fun e => by have := (HRT.out.1.lt k e.symm).1; omega)).trans (m.block k hk hn)⟩)
        have X4 := Lib.hid (show NoX r w4 from trivial)
        have T4 := Lib.hid (RTr.app hr (by omega) HRT.out.1 HRT.out.2.1 HRT.out.2.2 M2.out (TS.keep (fun _ hk => ⟨⟨hk.1, hk.2⟩, rfl⟩) _ _ T2.out) HO4.out HG4.out HT4.out)
        clear hgk
        go_wp2_with fail
        refine (skip_any r tq2 d 1 cmB _ R4.out).mono ?_
        intro e w5 h5
        have hE := EX.out
        rw [serR, HV.out] at hE
        simp only at hE
        cases hb : atB 1 cmB tq2 with
        | true =>
          rw [hb] at h5 hE
          obtain ⟨rfl, r5, m5⟩ := h5
          rw [skip_yes hb] at r5
          simp only [if_true] at hE
          have T5 := Lib.hid ((T4.out.moved m5 hr).fin (by rw [TrL.snoc_len]; omega))
          have R5 := Lib.hid r5
          have M5 := Lib.hid (M4.out.trans m5)
          have E5 := Lib.hid hE
          clear r5 m5 hE hb
          go_wp2_with fail
          exact HQ.out _ _ (post_ok E5.out.symm (show TP _ _ (.row (encSL (addS acc a))) _ by rw [show encSL (addS acc a) = (encSL acc).snoc (encS a) from encSL_snoc _ _]; exact T5.out) R5.out M5.out)
        | false =>
          rw [hb] at h5 hE
          obtain ⟨rfl, r5, m5⟩ := h5
          rw [skip_no hb] at r5
          simp only [Bool.false_eq_true, if_false] at hE
          have T5 := Lib.hid (T4.out.moved m5 hr)
          have R5 := Lib.hid r5
          have M5 := Lib.hid (M4.out.trans m5)
          have X5 := Lib.hid (X4.out.moved m5)
          have D5 := Lib.hid (D4.out.moved m5)
          have E5 := Lib.hid hE
          clear r5 m5 hE hb
          go_wp2_with fail
          go_roundg g
          case measure => omega
          case rel => exact ⟨addS acc a, tq2, by omega, by omega, by rw [show encSL (addS acc a) = (encSL acc).snoc (encS a) from encSL_snoc _ _, TrL.snoc_len]; omega, vaside ⟨by rw [show encSL (addS acc a) = (encSL acc).snoc (encS a) from encSL_snoc _ _]; exact T5.out, M5.out, R5.out, D5.out, G2.out, X5.out, E5.out⟩⟩
end Go.Proofs.YtaohniiemhahdaaGreatDoor
/- Readers of tokens as plain functions: what is read hangs on what is read, and on the token behind it; a text that is cut off within ends there. -/
namespace Go.Proofs.YtaohniiemhahdaaGreatDoor

/-- The text ends here. -/
def Ends {α : Type} (R : Except Int (α × List Tok)) : Prop := R = .error 2 ∨ ∃ a, R = .ok (a, [])
abbrev Rdr (α : Type) := List Tok → Except Int (α × List Tok)
/-- The end of a text is left. -/
def Suf {α : Type} (p : Rdr α) : Prop := ∀ ts a r, p ts = .ok (a, r) → r <:+ ts
def Str {α : Type} (p : Rdr α) : Prop := ∀ ts a r, p ts = .ok (a, r) → Sfx r ts
/-- Up to n tokens: the token behind decides alone; cut off, the text ends. -/
structure ParN {α : Type} (n : Nat) (p : Rdr α) : Prop where
  loc : ∀ pre rest a, pre.length ≤ n → p (pre ++ rest) = .ok (a, rest) → ∀ rest', rest'.head? = rest.head? → p (pre ++ rest') = .ok (a, rest')
  cut : ∀ pre rest a, pre.length ≤ n → p (pre ++ rest) = .ok (a, rest) → ∀ c, c <+: pre → Ends (p c)
def Nil {α : Type} (p : Rdr α) : Prop := Ends (p [])
theorem ParN.less {α : Type} {n m : Nat} {p : Rdr α} (h : ParN n p) (hm : m ≤ n) : ParN m p :=
  ⟨fun pre rest a hl => h.loc pre rest a (Nat.le_trans hl hm), fun pre rest a hl => h.cut pre rest a (Nat.le_trans hl hm)⟩
def bindR {α β : Type} (p : Rdr α) (q : α → Rdr β) : Rdr β := fun ts => match p ts with | .error x => .error x | .ok (a, r) => q a r
/-- If this token comes: behind it; else. -/
def ifR {α : Type} (k : Int) (s : ByteArray) (p q : Rdr α) : Rdr α := fun ts => if atB k s ts = true then p ts.tail else q ts
/-- The same, and the token is left. -/
def seeR {α : Type} (b : List Tok → Bool) (p q : Rdr α) : Rdr α := fun ts => if b ts = true then p ts else q ts
def Head (b : List Tok → Bool) : Prop := b [] = false ∧ ∀ r r' : List Tok, r'.head? = r.head? → b r' = b r
/-- A name. -/
def nmR {α : Type} (p : ByteArray → Rdr α) (q : Rdr α) : Rdr α := fun ts => match nameR ts with | none => q ts | some (n, r) => p n r
theorem name_cons (t : Tok) (ts : List Tok) : nameR (t :: ts) = if t.1 = 2 then some (t.2, ts) else none := rfl
/-- Whatever comes behind, up to n tokens. -/
def Free {α : Type} (n : Nat) (p : Rdr α) : Prop := ∀ pre rest a, pre.length ≤ n → p (pre ++ rest) = .ok (a, rest) → ∀ rest', p (pre ++ rest') = .ok (a, rest')
end Go.Proofs.YtaohniiemhahdaaGreatDoor
/- The landed reader of documents, as plain functions: each of them is a reader that hangs on what is read. -/
namespace Go.Proofs.YtaohniiemhahdaaGreatDoor

/-- Enough is enough. -/
theorem read_fuel : ∀ f : Nat,
    (∀ fx d ts f', 2 * ts.length + 1 ≤ f → f ≤ f' → valR f' fx d ts = valR f fx d ts) ∧
    (∀ fx d acc ts f', 2 * ts.length + 2 ≤ f → f ≤ f' → itemsR f' fx d acc ts = itemsR f fx d acc ts) ∧
    (∀ fx d acc ts f', 2 * ts.length + 2 ≤ f → f ≤ f' → memsR f' fx d acc ts = memsR f fx d acc ts) ∧
    (∀ fx d ts f', 2 * ts.length + 1 ≤ f → f ≤ f' → memR f' fx d ts = memR f fx d ts) := by
  intro f
  induction f with
  | zero => exact ⟨fun _ _ _ _ h _ => by omega, fun _ _ _ _ _ h _ => by omega, fun _ _ _ _ _ h _ => by omega, fun _ _ _ _ h _ => by omega⟩
  | succ f ih =>
    obtain ⟨iv, il, im, ib⟩ := ih
    refine ⟨fun fx d ts f' h hf => ?_, fun fx d acc ts f' h hf => ?_, fun fx d acc ts f' h hf => ?_, fun fx d ts f' h hf => ?_⟩
    · obtain ⟨g, rfl⟩ : ∃ g, f' = g + 1 := ⟨f' - 1, by omega⟩
      rw [valR, valR]
      by_cases h1 : atB 1 oB ts = true
      · have := at_len h1
        rw [if_pos h1, if_pos h1, il _ _ _ _ g (by omega) (by omega)]
      · rw [if_neg h1, if_neg h1]
        by_cases h2 : atB 1 omB ts = true
        · have := at_len h2
          rw [if_pos h2, if_pos h2, im _ _ _ _ g (by omega) (by omega)]
        · rw [if_neg h2, if_neg h2]
    · obtain ⟨g, rfl⟩ : ∃ g, f' = g + 1 := ⟨f' - 1, by omega⟩
      rw [itemsR, itemsR, iv _ _ _ g (by omega) (by omega)]
      split
      · rfl
      · cases hv : valR f fx d ts with
        | error x => rfl
        | ok q =>
          obtain ⟨v, r⟩ := q
          have := (read_less f).1 _ _ _ _ _ hv
          exact il _ _ _ _ g (by omega) (by omega)
    · obtain ⟨g, rfl⟩ : ∃ g, f' = g + 1 := ⟨f' - 1, by omega⟩
      rw [memsR, memsR, ib _ _ _ g (by omega) (by omega)]
      split
      · rfl
      · cases hv : memR f fx d ts with
        | error x => rfl
        | ok q =>
          obtain ⟨⟨nm, v⟩, r⟩ := q
          have := (read_less f).2.2.2 _ _ _ _ _ hv
          exact im _ _ _ _ g (by omega) (by omega)
    · obtain ⟨g, rfl⟩ : ∃ g, f' = g + 1 := ⟨f' - 1, by omega⟩
      rw [memR, memR]
      cases hn : nameR ts with
      | none => rfl
      | some q =>
        obtain ⟨nm, r⟩ := q
        have := name_len hn
        simp only
        by_cases h1 : atB 1 colB r = true
        · have := at_len h1
          rw [if_pos h1, if_pos h1, iv _ _ _ g (by omega) (by omega)]
        · rw [if_neg h1, if_neg h1]
def itemsD (fx : Bool) (d : Nat) (acc : VL) (ts : List Tok) : Except Int (VL × List Tok) := itemsR (2 * ts.length + 2) fx d acc ts
def memsD (fx : Bool) (d : Nat) (acc : VM) (ts : List Tok) : Except Int (VM × List Tok) := memsR (2 * ts.length + 2) fx d acc ts
def errR {α : Type} (x : Int) : Rdr α := fun _ => .error x
def retR {α : Type} (a : α) : Rdr α := fun ts => .ok (a, ts)
def varV : Rdr VT := ifR 1 dolB (nmR (fun s => retR (.mk 8 0 s .nil .nil)) (errR 2)) oneR
theorem valD_eq (fx : Bool) (d : Nat) : valD fx d = ifR 1 oB (if d = 16 then errR 4 else bindR (itemsD fx (d + 1) .nil) fun l => retR (.mk 6 0 ⟨#[]⟩ l .nil)) (ifR 1 omB (if d = 16 then errR 4 else bindR (memsD fx (d + 1) .nil) fun m => retR (.mk 7 0 ⟨#[]⟩ .nil m)) (if fx = true then oneR else varV)) := by
  funext ts
  unfold valD ifR
  rw [valR]
  by_cases h1 : atB 1 oB ts = true
  · have := at_len h1
    rw [if_pos h1, if_pos h1]
    by_cases hd : d = 16
    · rw [if_pos hd, if_pos hd]; rfl
    · rw [if_neg hd, if_neg hd]
      unfold bindR itemsD
      rw [show 2 * ts.tail.length + 2 = 2 * ts.length by omega]
      cases itemsR (2 * ts.length) fx (d + 1) .nil ts.tail <;> rfl
  · rw [if_neg h1, if_neg h1]
    by_cases h2 : atB 1 omB ts = true
    · have := at_len h2
      rw [if_pos h2, if_pos h2]
      by_cases hd : d = 16
      · rw [if_pos hd, if_pos hd]; rfl
      · rw [if_neg hd, if_neg hd]
        unfold bindR memsD
        rw [show 2 * ts.tail.length + 2 = 2 * ts.length by omega]
        cases memsR (2 * ts.length) fx (d + 1) .nil ts.tail <;> rfl
    · rw [if_neg h2, if_neg h2]
      cases fx with
      | true => rfl
      | false =>
        rw [if_neg (by simp : ¬ (false = true))]
        unfold varV ifR nmR
        cases h3 : atB 1 dolB ts with
        | true =>
          simp only [Bool.not_false, Bool.and_self, if_true]
          cases nameR ts.tail <;> rfl
        | false => rfl
theorem itemsD_eq (fx : Bool) (d : Nat) (acc : VL) : itemsD fx d acc = ifR 1 cB (retR acc) (bindR (valD fx d) fun v => itemsD fx d (acc.snoc v)) := by
  funext ts
  unfold itemsD ifR
  rw [itemsR]
  split
  · rfl
  · unfold bindR valD
    cases hv : valR (2 * ts.length + 1) fx d ts with
    | error x => rfl
    | ok q =>
      obtain ⟨v, r⟩ := q
      have := (read_less _).1 _ _ _ _ _ hv
      exact (read_fuel _).2.1 _ _ _ _ _ (Nat.le_refl _) (by omega)
theorem memsD_eq (fx : Bool) (d : Nat) (acc : VM) : memsD fx d acc = ifR 1 cmB (retR acc) (bindR (memD fx d) fun p => memsD fx d (acc.snoc p.1 p.2)) := by
  funext ts
  unfold memsD ifR
  rw [memsR]
  split
  · rfl
  · unfold bindR memD
    cases hv : memR (2 * ts.length + 1) fx d ts with
    | error x => rfl
    | ok q =>
      obtain ⟨⟨nm, v⟩, r⟩ := q
      have := (read_less _).2.2.2 _ _ _ _ _ hv
      exact (read_fuel _).2.2.1 _ _ _ _ _ (Nat.le_refl _) (by omega)
theorem memD_eq (fx : Bool) (d : Nat) : memD fx d = nmR (fun nm => ifR 1 colB (bindR (valD fx d) fun v => retR (nm, v)) (errR 2)) (errR 2) := by
  funext ts
  unfold memD nmR ifR
  rw [memR]
  cases hn : nameR ts with
  | none => rfl
  | some q =>
    obtain ⟨nm, r⟩ := q
    have := name_len hn
    simp only
    by_cases h1 : atB 1 colB r = true
    · have := at_len h1
      rw [if_pos h1, if_pos h1]
      unfold bindR valD
      rw [(read_fuel (2 * r.tail.length + 1)).1 _ _ _ (2 * ts.length) (Nat.le_refl _) (by omega)]
      cases valR (2 * r.tail.length + 1) fx d r.tail <;> rfl
    · rw [if_neg h1, if_neg h1]; rfl
theorem str_val (fx : Bool) (d : Nat) : Str (valD fx d) := fun _ _ _ h => val_sfx h
theorem str_mem (fx : Bool) (d : Nat) : Str (memD fx d) := fun _ _ _ h => mem_sfx h
/-- A series. -/
theorem serR_fuel {α ρ : Type} {one : Rdr α} {add : ρ → α → ρ} {e : ByteArray} (H : Str one) : ∀ (f f' : Nat) (acc : ρ) (ts : List Tok), ts.length < f → ts.length < f' → serR one add e f acc ts = serR one add e f' acc ts
  | 0, _, _, _, h, _ => absurd h (Nat.not_lt_zero _)
  | _ + 1, 0, _, _, _, h => absurd h (Nat.not_lt_zero _)
  | f + 1, f' + 1, acc, ts, h, h' => by
    rw [serR, serR]
    cases ho : one ts with
    | error x => rfl
    | ok p =>
      obtain ⟨a, r⟩ := p
      simp only
      split
      · rfl
      · have := (H _ _ _ ho).2
        exact serR_fuel H f f' _ _ (by omega) (by omega)
def serD {α ρ : Type} (one : Rdr α) (add : ρ → α → ρ) (e : ByteArray) (acc : ρ) : Rdr ρ := fun ts => serR one add e (ts.length + 1) acc ts
theorem serD_eq {α ρ : Type} {one : Rdr α} {add : ρ → α → ρ} {e : ByteArray} (H : Str one) (acc : ρ) : serD one add e acc = bindR one fun a => ifR 1 e (retR (add acc a)) (serD one add e (add acc a)) := by
  funext ts
  unfold serD bindR ifR
  rw [serR]
  cases ho : one ts with
  | error x => rfl
  | ok p =>
    obtain ⟨a, r⟩ := p
    simp only
    have := (H _ _ _ ho).2
    rw [serR_fuel H ts.length (r.length + 1) _ _ this (by omega)]
    rfl
theorem argsR_eq (fx : Bool) (d : Nat) : argsR fx d = ifR 1 opB (serD (memD fx d) addM cpB .nil) (retR .nil) := by funext ts; rfl
/-- Directives. -/
theorem dirsF_fuel {fx : Bool} {d : Nat} : ∀ (f f' : Nat) (acc : List DirT) (ts : List Tok), ts.length < f → ts.length < f' → dirsF fx d f acc ts = dirsF fx d f' acc ts
  | 0, _, _, _, h, _ => absurd h (Nat.not_lt_zero _)
  | _ + 1, 0, _, _, _, h => absurd h (Nat.not_lt_zero _)
  | f + 1, f' + 1, acc, ts, h, h' => by
    rw [dirsF, dirsF]
    split
    · rename_i ha
      have h1 := (at_sfx ha).2
      cases hn : nameR ts.tail with
      | none => rfl
      | some q =>
        obtain ⟨n, r⟩ := q
        have h2 := (name_sfx hn).2
        simp only
        cases hg : argsR fx d r with
        | error x => rfl
        | ok q =>
          obtain ⟨m, r2⟩ := q
          have h3 := (args_sfx hg).length_le
          exact dirsF_fuel f f' _ _ (by omega) (by omega)
    · rfl
def dirsD (fx : Bool) (d : Nat) (acc : List DirT) : Rdr (List DirT) := fun ts => dirsF fx d (ts.length + 1) acc ts
theorem dirsD_eq (fx : Bool) (d : Nat) (acc : List DirT) : dirsD fx d acc = ifR 1 atmB (nmR (fun n => bindR (argsR fx d) fun m => dirsD fx d (acc ++ [(n, m)])) (errR 2)) (retR acc) := by
  funext ts
  unfold dirsD ifR nmR bindR
  rw [dirsF]
  split
  · rename_i ha
    have h1 := (at_sfx ha).2
    cases hn : nameR ts.tail with
    | none => rfl
    | some q =>
      obtain ⟨n, r⟩ := q
      have h2 := (name_sfx hn).2
      simp only
      cases hg : argsR fx d r with
      | error x => rfl
      | ok q =>
        obtain ⟨m, r2⟩ := q
        have h3 := (args_sfx hg).length_le
        exact dirsF_fuel _ _ _ _ (by omega) (by omega)
  · rfl
/-- Types. -/
def bangD (n : ByteArray) (l m : Nat) : Rdr (ByteArray × Nat × Nat) := ifR 1 bB (retR (n, l, m ||| 1)) (retR (n, l, m))
theorem bangD_eq (n : ByteArray) (l m : Nat) (ts : List Tok) : bangD n l m ts = .ok (bangR n l m ts) := by
  unfold bangD ifR bangR
  split
  · rfl
  · rfl
theorem typeR_eq0 : typeR 0 = ifR 1 oB (errR 4) (nmR (fun n => bangD n 0 0) (errR 2)) := by
  funext ts
  unfold ifR nmR
  by_cases h : atB 1 oB ts = true
  · rw [typeR_deep h, if_pos h]; rfl
  · have h' : atB 1 oB ts = false := by simpa using h
    rw [typeR_name h', if_neg h]
    cases nameR ts with
    | none => rfl
    | some q => obtain ⟨n, r⟩ := q; exact (bangD_eq n 0 0 r).symm
theorem typeR_eq (left : Nat) : typeR (left + 1) = ifR 1 oB (bindR (typeR left) fun t => ifR 1 cB (bangD t.1 (t.2.1 + 1) (2 * t.2.2)) (errR 2)) (nmR (fun n => bangD n 0 0) (errR 2)) := by
  funext ts
  unfold ifR nmR bindR
  by_cases h : atB 1 oB ts = true
  · rw [typeR_list h, if_pos h]
    cases typeR left ts.tail with
    | error x => rfl
    | ok q =>
      obtain ⟨⟨n, l, m⟩, r⟩ := q
      simp only
      split
      · exact (bangD_eq _ _ _ _).symm
      · rfl
  · have h' : atB 1 oB ts = false := by simpa using h
    rw [typeR_name h', if_neg h]
    cases nameR ts with
    | none => rfl
    | some q => obtain ⟨n, r⟩ := q; exact (bangD_eq n 0 0 r).symm
/-- Selections. -/
theorem inlineR_eq (S : SelsF) (d : Nat) (o : ByteArray) : inlineR S d o = bindR (dirsR false d) fun ds => bindR S fun s => retR (.mk 2 eB eB .nil ds o s) := by
  funext ts
  unfold inlineR bindR
  cases dirsR false d ts with
  | error x => rfl
  | ok q =>
    obtain ⟨ds, r⟩ := q
    simp only
    cases S r <;> rfl
theorem spreadR_eq (S : SelsF) (d : Nat) : spreadR S d = ifR 2 onB (nmR (fun o => inlineR S d o) (errR 2)) (nmR (fun n => bindR (dirsR false d) fun ds => retR (.mk 1 eB n .nil ds eB .nil)) (inlineR S d eB)) := by
  funext ts
  unfold spreadR ifR nmR bindR
  split
  · cases nameR ts.tail <;> rfl
  · cases nameR ts with
    | none => rfl
    | some q =>
      obtain ⟨n, r⟩ := q
      simp only
      cases dirsR false d r <;> rfl
theorem restR_eq (S : SelsF) (d : Nat) (al nm : ByteArray) : restR S d al nm = bindR (argsR false d) fun g => bindR (dirsR false d) fun ds => seeR (atB 1 omB) (bindR S fun s => retR (.mk 0 al nm g ds eB s)) (retR (.mk 0 al nm g ds eB .nil)) := by
  funext ts
  unfold restR bindR seeR
  cases argsR false d ts with
  | error x => rfl
  | ok q =>
    obtain ⟨g, r⟩ := q
    simp only
    cases dirsR false d r with
    | error x => rfl
    | ok q =>
      obtain ⟨ds, r2⟩ := q
      simp only
      split
      · cases S r2 <;> rfl
      · rfl
theorem fieldR_eq (S : SelsF) (d : Nat) : fieldR S d = nmR (fun n => ifR 1 colB (nmR (fun n2 => restR S d n n2) (errR 2)) (restR S d eB n)) (errR 2) := by
  funext ts
  unfold fieldR nmR ifR
  cases nameR ts with
  | none => rfl
  | some q =>
    obtain ⟨n, r⟩ := q
    simp only
    split
    · cases nameR r.tail <;> rfl
    · rfl
theorem selOne_eq (S : SelsF) (d : Nat) : selOne S d = ifR 1 dotB (spreadR S d) (fieldR S d) := by funext ts; rfl
theorem str_sel {S : SelsF} (sS : Str S) (d : Nat) : Str (selOne S d) := fun _ _ _ h => selOne_sfx (fun _ _ _ h => sS _ _ _ h) h
/-- Enough is enough. -/
theorem sel_less {S S' : SelsF} {d : Nat} {ts : List Tok} (h : ∀ tq, tq.length < ts.length → S tq = S' tq) : selOne S d ts = selOne S' d ts := by
  have hin : ∀ o tq, tq.length < ts.length → inlineR S d o tq = inlineR S' d o tq := by
    intro o tq hq
    unfold inlineR
    cases hd : dirsR false d tq with
    | error x => rfl
    | ok q =>
      obtain ⟨ds, r⟩ := q
      have := (dirs_sfx hd).length_le
      simp only
      rw [h r (by omega)]
  have hre : ∀ al nm tq, tq.length < ts.length → restR S d al nm tq = restR S' d al nm tq := by
    intro al nm tq hq
    unfold restR
    cases hg : argsR false d tq with
    | error x => rfl
    | ok q =>
      obtain ⟨g, r0⟩ := q
      have h0 := (args_sfx hg).length_le
      simp only
      cases hd : dirsR false d r0 with
      | error x => rfl
      | ok q =>
        obtain ⟨ds, r⟩ := q
        have := (dirs_sfx hd).length_le
        simp only
        rw [h r (by omega)]
  unfold selOne
  split
  · rename_i ha
    have h1 := (at_sfx ha).2
    unfold spreadR
    split
    · rename_i hb
      have h2 := (at_sfx hb).2
      cases hn : nameR ts.tail.tail with
      | none => rfl
      | some q =>
        obtain ⟨o, r⟩ := q
        have := (name_sfx hn).2
        exact hin _ _ (by omega)
    · cases hn : nameR ts.tail with
      | none => exact hin _ _ h1
      | some q => rfl
  · unfold fieldR
    cases hn : nameR ts with
    | none => rfl
    | some q =>
      obtain ⟨n, r⟩ := q
      have h1 := (name_sfx hn).2
      simp only
      split
      · rename_i hb
        have h2 := (at_sfx hb).2
        cases hm : nameR r.tail with
        | none => rfl
        | some q =>
          obtain ⟨n2, r2⟩ := q
          have := (name_sfx hm).2
          exact hre _ _ _ (by omega)
      · exact hre _ _ _ h1
theorem serR_same {α ρ : Type} {one one' : Rdr α} {add : ρ → α → ρ} {e : ByteArray} (H : Str one) : ∀ (f : Nat) (acc : ρ) (ts : List Tok), (∀ tq, tq.length ≤ ts.length → one tq = one' tq) → serR one add e f acc ts = serR one' add e f acc ts
  | 0, _, _, _ => rfl
  | f + 1, acc, ts, h => by
    rw [serR, serR, ← h ts (Nat.le_refl _)]
    cases ho : one ts with
    | error x => rfl
    | ok p =>
      obtain ⟨a, r⟩ := p
      have := (H _ _ _ ho).2
      simp only
      rw [serR_same H f _ r fun tq hq => h tq (by omega)]
theorem sels_fuel : ∀ f : Nat, (∀ d ts f', ts.length < f → f ≤ f' → selsR f d ts = selsR f' d ts) ∧ (∀ d ts f', ts.length < f → f ≤ f' → selR f d ts = selR f' d ts) := by
  intro f
  induction f with
  | zero => exact ⟨fun _ _ _ h _ => absurd h (Nat.not_lt_zero _), fun _ _ _ h _ => absurd h (Nat.not_lt_zero _)⟩
  | succ f ih =>
    obtain ⟨i1, i2⟩ := ih
    refine ⟨fun d ts f' h hf => ?_, fun d ts f' h hf => ?_⟩
    · obtain ⟨g, rfl⟩ : ∃ g, f' = g + 1 := ⟨f' - 1, by omega⟩
      rw [selsR, selsR]
      split
      · rename_i ha
        have h1 := (at_sfx ha).2
        split
        · rfl
        · exact serR_same (fun _ _ _ h => (sels_all f).2 _ _ _ _ h) _ _ _ fun tq hq => i2 _ _ g (by omega) (by omega)
      · rfl
    · obtain ⟨g, rfl⟩ : ∃ g, f' = g + 1 := ⟨f' - 1, by omega⟩
      rw [selR, selR]
      exact sel_less fun tq hq => i1 _ _ g (by omega) (by omega)
def selD (d : Nat) : Rdr SelT := fun ts => selR (ts.length + 1) d ts
theorem selD_eq (d : Nat) : selD d = selOne (selsD d) d := by
  funext ts
  unfold selD
  rw [selR]
  exact sel_less fun tq hq => ((sels_fuel _).1 _ _ _ (Nat.lt_succ_self _) (by omega)).symm
theorem selsD_eq (d : Nat) : selsD d = ifR 1 omB (if d = 16 then errR 4 else serD (selD (d + 1)) addS cmB .nil) (errR 2) := by
  funext ts
  unfold selsD ifR
  rw [selsR]
  split
  · rename_i ha
    have h1 := (at_sfx ha).2
    split
    · rfl
    · exact serR_same (fun _ _ _ h => (sels_all _).2 _ _ _ _ h) _ _ _ fun tq hq => ((sels_fuel _).2 _ _ _ (Nat.lt_succ_self _) (by omega)).symm
  · rfl
theorem str_sels (d : Nat) : Str (selsD d) := fun _ _ _ h => sels_sfx h
theorem str_selD (d : Nat) : Str (selD d) := by rw [selD_eq]; exact str_sel (str_sels d) d
/-- Variables. -/
def varA (d : Nat) (n : ByteArray) (t : ByteArray × Nat × Nat) : Rdr VarT := ifR 1 eqB (bindR (valD true d) fun v => retR ⟨n, t.1, t.2.1, t.2.2, true, v⟩) (retR ⟨n, t.1, t.2.1, t.2.2, false, zeroT⟩)
theorem varR_eq (d : Nat) : varR d = ifR 1 dolB (nmR (fun n => ifR 1 colB (bindR (typeR 4) fun t => varA d n t) (errR 2)) (errR 2)) (errR 2) := by
  funext ts
  unfold varR ifR nmR bindR varA ifR bindR
  split
  · cases nameR ts.tail with
    | none => rfl
    | some q =>
      obtain ⟨n, r⟩ := q
      simp only
      split
      · cases typeR 4 r.tail with
        | error x => rfl
        | ok q =>
          obtain ⟨t, r2⟩ := q
          simp only
          split
          · cases valD true d r2.tail <;> rfl
          · rfl
      · rfl
  · rfl
theorem str_var (d : Nat) : Str (varR d) := fun _ _ _ h => var_sfx h
theorem varsR_eq (d : Nat) : varsR d = ifR 1 opB (serD (varR d) addL cpB []) (retR []) := by funext ts; rfl
/-- Operations, fragments. -/
theorem opRest_eq (kind : Int) (d : Nat) (nm : ByteArray) : opRest kind d nm = bindR (varsR d) fun vs => bindR (dirsR true d) fun ds => bindR (selsD d) fun s => retR ⟨kind, nm, vs, ds, s⟩ := by
  funext ts
  unfold opRest bindR
  cases varsR d ts with
  | error x => rfl
  | ok q =>
    obtain ⟨vs, r⟩ := q
    simp only
    cases dirsR true d r with
    | error x => rfl
    | ok q =>
      obtain ⟨ds, r2⟩ := q
      simp only
      cases selsD d r2 <;> rfl
theorem opR_eq (kind : Int) (d : Nat) : opR kind d = nmR (fun n => opRest kind d n) (opRest kind d eB) := by
  funext ts
  unfold opR nmR
  cases nameR ts <;> rfl
theorem fragR_eq (d : Nat) : fragR d = seeR (atB 2 onB) (errR 2) (nmR (fun n => ifR 2 onB (nmR (fun o => bindR (dirsR true d) fun ds => bindR (selsD d) fun s => retR ⟨n, o, ds, s⟩) (errR 2)) (errR 2)) (errR 2)) := by
  funext ts
  unfold fragR seeR nmR ifR bindR
  split
  · rfl
  · cases nameR ts with
    | none => rfl
    | some q =>
      obtain ⟨n, r⟩ := q
      simp only
      split
      · cases nameR r.tail with
        | none => rfl
        | some q =>
          obtain ⟨o, r2⟩ := q
          simp only
          cases dirsR true d r2 with
          | error x => rfl
          | ok q =>
            obtain ⟨ds, r3⟩ := q
            simp only
            cases selsD d r3 <;> rfl
      · rfl
/-- What ends with selections: a reader, whatever comes behind. -/
structure Tailed {α : Type} (p : Rdr α) : Prop where
  str : Str p
  par : ∀ n, ParN n p
  nil : Nil p
  free : ∀ n, Free n p
/-- A definition alone. -/
inductive DefT where
  | op (x : OpT)
  | frag (x : FragT)
def oneD : Rdr DefT :=
  seeR (atB 1 omB) (bindR (selsD 0) fun s => retR (.op ⟨0, eB, [], [], s⟩)) (ifR 2 queryB (bindR (opR 0 0) fun o => retR (.op o)) (ifR 2 mutB (bindR (opR 1 0) fun o => retR (.op o)) (ifR 2 fragB (bindR (fragR 0) fun o => retR (.frag o)) (errR 2))))
def addD (D : DocT) : DefT → DocT
  | .op x => ⟨D.ops ++ [x], D.frags⟩
  | .frag x => ⟨D.ops, D.frags ++ [x]⟩
theorem defR_eq (D : DocT) : defR D = bindR oneD fun x => retR (addD D x) := by
  funext ts
  unfold defR bindR oneD seeR ifR bindR
  split
  · cases selsD 0 ts <;> rfl
  · split
    · cases opR 0 0 ts.tail <;> rfl
    · split
      · cases opR 1 0 ts.tail <;> rfl
      · split
        · cases fragR 0 ts.tail <;> rfl
        · rfl
/-- All definitions. -/
def defsF : Nat → List Tok → Except Int (List DefT)
  | 0, _ => .error 2
  | f + 1, ts =>
    match oneD ts with
    | .error x => .error x
    | .ok (x, r) => if r.isEmpty = true then .ok [x] else match defsF f r with | .error e => .error e | .ok l => .ok (x :: l)
theorem docF_eq : ∀ (f : Nat) (D : DocT) (ts : List Tok), docF f D ts = (match defsF f ts with | .error e => .error e | .ok l => .ok (l.foldl addD D))
  | 0, _, _ => rfl
  | f + 1, D, ts => by
    rw [docF, defsF, defR_eq]
    unfold bindR
    cases oneD ts with
    | error x => rfl
    | ok q =>
      obtain ⟨x, r⟩ := q
      show (if r.isEmpty = true then .ok (addD D x) else docF f (addD D x) r) = _
      simp only
      split
      · rfl
      · rw [docF_eq f]
        cases defsF f r <;> rfl
def defsD (ts : List Tok) : Except Int (List DefT) := defsF (ts.length + 1) ts
theorem docR_eq (ts : List Tok) : docR ts = (match defsD ts with | .error e => .error e | .ok l => .ok (l.foldl addD ⟨[], []⟩)) := docF_eq _ _ _
end Go.Proofs.YtaohniiemhahdaaGreatDoor
