/- The landed series: api.Member. -/
import Derived.Test.YtaohniiemhahdaaGreatDoorQb18
import Derived.Test.YtaohniiemhahdaaGreatDoorQb27
import Derived.Deep.AppendLies
namespace Go.Proofs.YtaohniiemhahdaaGreatDoor
open Go.RowKit

/-- The two boxes that the function of arguments has captured. -/
def ArgB (r : Nat) (fx : Bool) (p0 p1 : Nat) (w : World) : Prop := w.heap[p0]? = some (.cells #[.pointer (some ⟨r, 0, none⟩)] 69 (0, 0)) ∧ w.heap[p1]? = some (.cells #[.bool fx] 4 (0, 0)) ∧ p0 ≠ r ∧ p1 ≠ r
theorem ArgB.moved {r : Nat} {fx : Bool} {p0 p1 : Nat} {w w' : World} (h : ArgB r fx p0 p1 w) (m : Moved r w w') : ArgB r fx p0 p1 w' := ⟨m.keep h.1 h.2.2.1, m.keep h.2.1 h.2.2.2, h.2.2⟩
def NoX (_r : Nat) (_w : World) : Prop := True
theorem NoX.moved {r : Nat} {w w' : World} (_h : NoX r w) (_m : Moved r w w') : NoX r w' := trivial
set_option maxRecDepth 100000 in
theorem arg1_any (fx : Bool) (p0 p1 d : Nat) (ts : List Tok) (r : Nat) (w : World) (hG : GoodD ts) (hd : d ≤ 16) (hR : Rd w r ts d) (hK : KRd r w) (hX : ArgB r fx p0 p1 w) : Calls Tryz.prog 205 #[.pointer (some ⟨p0, 0, none⟩), .pointer (some ⟨p1, 0, none⟩)] w (Post r d w (layS (fun p => encMem p.1 p.2)) (memD fx d ts)) := by
  suffices H : ∀ Q : Ending → World → Prop, (∀ e w', Post r d w (layS (fun p => encMem p.1 p.2)) (memD fx d ts) e w' → Q e w') → Calls Tryz.prog 205 #[.pointer (some ⟨p0, 0, none⟩), .pointer (some ⟨p1, 0, none⟩)] w Q from H _ (fun _ _ h => h)
  intro Q hQ
  have HQ := Lib.hid hQ
  have K0 := Lib.hid (S0.start hR hK #[.string ⟨#[]⟩, .int .i64 0, .int .i64 0, .string ⟨#[]⟩, .slice none 0 0, .slice none 0 0] 108)
  obtain ⟨q0, _⟩ := one_box ((below_new' w (.cells #[.string ⟨#[]⟩, .int .i64 0, .int .i64 0, .string ⟨#[]⟩, .slice none 0 0, .slice none 0 0] 108)).block p0 (Array.getElem?_eq_some_iff.1 hX.1).1 |>.trans hX.1)
  obtain ⟨q1, _⟩ := one_box ((below_new' w (.cells #[.string ⟨#[]⟩, .int .i64 0, .int .i64 0, .string ⟨#[]⟩, .slice none 0 0, .slice none 0 0] 108)).block p1 (Array.getElem?_eq_some_iff.1 hX.2.1).1 |>.trans hX.2.1)
  have HG := Lib.hid hG
  clear hQ hR hK hX hG
  go_enter Tryz.func205, Tryz.ntmps205
  go_wp2_with fail
  refine (mem_post fx d ts r _ HG.out hd K0.out.rd K0.out.k).mono ?_
  intro e w1 h
  cases hv : memD fx d ts with
  | error x =>
    rw [hv] at h
    obtain ⟨rfl, m⟩ := of_err h
    exact ⟨rfl, HQ.out _ _ (post_err hv (K0.out.mv.trans m))⟩
  | ok p =>
    obtain ⟨a, ts1⟩ := p
    rw [hv] at h
    obtain ⟨⟨v, rfl, hl⟩, r1, m1⟩ := of_ok h
    obtain ⟨s0, i1, i2, s3, A4, n4, k4, A5, n5, k5, rfl, hts⟩ := mem_open hl
    have K1 := Lib.hid (K0.out.next r1 m1)
    have T1 := Lib.hid (OvS.of hts K0.out.lt)
    obtain ⟨y0, y1, y2, y3, y4, y5, yz⟩ := six_cells K1.out.res
    have z0 := yz 0
    have z1 := yz 1
    have z2 := yz 2
    have z3 := yz 3
    have z4 := yz 4
    have z5 := yz 5
    have HV := Lib.hid hv
    clear r1 m1 hl hts h hv q0 q1 yz
    go_wp2_with fail
    obtain ⟨f1, f2, f3⟩ := S0.fin (ys := [.string ⟨#[]⟩, .int .i64 0, .int .i64 0, .string ⟨#[]⟩, .slice none 0 0, .slice none 0 0]) K1.out [.string s0, .int .i64 i1, .int .i64 i2, .string s3, .slice A4 n4 k4, .slice A5 n5 k5] rfl
    have FT := T1.out.fin (w := w) (Nat.le_refl _) [.string s0, .int .i64 i1, .int .i64 i2, .string s3, .slice A4 n4 k4, .slice A5 n5 k5]
    have FP := HQ.out _ _ (post_ok HV.out ⟨_, rfl, FT⟩ f2 f3)
    exact ret_st rfl rfl rfl f1 Tryz.underlying108 ⟨_, rfl⟩ (by kernel_rfl) FP
theorem info_M : (Tryz.prog.info? 108).map (fun i => (i.zero, i.size, i.bytes)) = some (some (.agg #[.string ⟨#[]⟩, .int .i64 0, .int .i64 0, .string ⟨#[]⟩, .slice none 0 0, .slice none 0 0]), 6, 96) := by kernel_rfl
set_option maxRecDepth 100000 in
set_option maxHeartbeats 8000000 in
theorem serM_any (fx : Bool) (p0 p1 : Nat) (one : List Tok → Except Int ((ByteArray × VT) × List Tok)) (hS : ∀ ts a r, one ts = .ok (a, r) → Sfx r ts) (r d : Nat) (ts : List Tok) (w : World)
    (HC : ∀ tq wx, GoodD tq → tq.length ≤ ts.length → Rd wx r tq d → KRd r wx → ArgB r fx p0 p1 wx → Calls Tryz.prog 205 #[.pointer (some ⟨p0, 0, none⟩), .pointer (some ⟨p1, 0, none⟩)] wx (Post r d wx (layS (fun p => encMem p.1 p.2)) (one tq)))
    (hG : GoodD ts) (hR : Rd w r ts d) (hK : KRd r w) (hX : ArgB r fx p0 p1 w) : Calls Tryz.prog 204 #[.pointer (some ⟨r, 0, none⟩), .string cpB, .func (.func 205) #[] #[.pointer (some ⟨p0, 0, none⟩), .pointer (some ⟨p1, 0, none⟩)]] w (Post r d w (layR encM) (serR one addM cpB (ts.length + 1) .nil ts)) := by
  suffices H : ∀ Q : Ending → World → Prop, (∀ e w', Post r d w (layR encM) (serR one addM cpB (ts.length + 1) .nil ts) e w' → Q e w') → Calls Tryz.prog 204 #[.pointer (some ⟨r, 0, none⟩), .string cpB, .func (.func 205) #[] #[.pointer (some ⟨p0, 0, none⟩), .pointer (some ⟨p1, 0, none⟩)]] w Q from H _ (fun _ _ h => h)
  intro Q hQ
  obtain ⟨ti0, hi, hz0, hz1, hz2⟩ := info_parts info_M
  obtain ⟨RES, hRES⟩ : ∃ RES, serR one addM cpB (ts.length + 1) .nil ts = RES := ⟨_, rfl⟩
  rw [hRES] at hQ
  have HQ := Lib.hid hQ
  have HRES := Lib.hid hRES
  have HCC := Lib.hid HC
  have HSS := Lib.hid hS
  have hr := hR.lt
  have hlen : ts.length ≤ 200000 := by obtain ⟨_, _, _, _, h, _⟩ := hR; exact h
  have PL := Lib.hid (And.intro (Array.getElem?_eq_some_iff.1 hX.1).1 (Array.getElem?_eq_some_iff.1 hX.2.1).1)
  have B0 := Lib.hid (And.intro hR (And.intro hK (And.intro hG hX)))
  clear hQ hRES HC hS hG hR hK hX
  go_enter Tryz.func204, Tryz.ntmps204
  go_wp2_with fail
  go_loopg [7] (ts.length + 1) (fun g out wx => ∃ (acc : VM) (tq : List Tok), tq.length + 1 ≤ g ∧ tq.length ≤ ts.length ∧ (encM acc).len + tq.length ≤ 200000 ∧ Aside (RTr 108 6 w.heap.size wx out (encM acc) ∧ Moved r w wx ∧ Rd wx r tq d ∧ KRd r wx ∧ GoodD tq ∧ ArgB r fx p0 p1 wx ∧ serR one addM cpB g acc tq = RES))
  case atStart => exact ⟨.nil, ts, Nat.le_refl _, Nat.le_refl _, by rw [show (encM .nil).len = 0 from (by rw [encM]; rfl)]; omega, vaside ⟨(by rw [encM]; exact RTr.start _ _ _ _), Moved.refl _ _, B0.out.1, B0.out.2.1, B0.out.2.2.1, B0.out.2.2.2, HRES.out⟩⟩
  case round =>
    obtain ⟨acc, tq, hq, hql, hal, HA⟩ := hrel
    obtain ⟨hrt, hmx, hrx, hkx, hgx, hxx, hex⟩ := HA.out
    obtain ⟨xs, P, hown, hvals, hP⟩ := hrt
    obtain ⟨Ao, co, rfl⟩ := shape_own hown
    have KX := Lib.hid (And.intro hmx (And.intro hrx (And.intro hkx hxx)))
    have GX := Lib.hid hgx
    have EX := Lib.hid hex
    have HRT := Lib.hid (And.intro hown (And.intro hvals hP))
    clear HA hmx hrx hkx hgx hxx hex hown hvals hP
    cases gk with
    | zero => omega
    | succ g =>
      go_wp2_with fail
      refine (HCC.out tq _ GX.out hql KX.out.2.1 KX.out.2.2.1 KX.out.2.2.2).mono ?_
      intro e w2 h
      cases hv : one tq with
      | error x =>
        rw [hv] at h
        obtain ⟨rfl, m⟩ := of_err h
        exact ⟨rfl, HQ.out _ _ (post_err (by rw [← EX.out, serR, hv]) (KX.out.1.trans m))⟩
      | ok p =>
        obtain ⟨a, tq2⟩ := p
        rw [hv] at h
        obtain ⟨⟨v, rfl, hl⟩, r2, m2⟩ := of_ok h
        obtain ⟨s0, i1, i2, s3, A4, n4, k4, A5, n5, k5, rfl, hts⟩ := mem_open hl
        have hsf := HSS.out _ _ _ hv
        have hsl := hsf.2
        have G2 := Lib.hid (GX.out.sub hsf.1)
        have M2 := Lib.hid m2
        have R2 := Lib.hid r2
        have T2 := Lib.hid hts
        have hs2 := m2.size
        have hs0 := KX.out.1.size
        have O2 := Lib.hid (own_moved HRT.out.1 m2 hr)
        have HV := Lib.hid hv
        clear h hv hl hts r2 m2 hsf
        go_wp2_with (at_builtin; refine wpList_append_lies _ rfl _ _ 33 rfl w.heap.size 108 ti0 (.agg #[.string ⟨#[]⟩, .int .i64 0, .int .i64 0, .string ⟨#[]⟩, .slice none 0 0, .slice none 0 0]) 6 96 Tryz.underlying33 hi hz0 hz1 hz2 rfl (by decide) _ (encM acc).len xs rfl (own_low O2.out (below_new' _ _)) _ 1 1 [.string s0, .int .i64 i1, .int .i64 i2, .string s3, .slice A4 n4 k4, .slice A5 n5 k5] rfl rfl (fun j u hj => World.news_of_block (heap_alloc_new _ _) j u hj) (by intro y hy; simp at hy; rcases hy with rfl | rfl | rfl | rfl | rfl | rfl <;> rfl) (by decide) (by unfold maxLen; omega) (by omega) (by simp; omega) _ rfl ?_; intro gg cap2 w4 hown4 hgrow hat hlt4; have HG4 := Lib.hid hgrow; have HO4 := Lib.hid hown4; have HT4 := Lib.hid hat; clear hgrow hown4 hat)
        have hgk := grown_keep HG4.out (r := r) (fun b hb => by have := (HRT.out.1.lt b hb).1; omega)
        have R4 := Lib.hid (hgk.1 _ _ (R2.out.below (below_new' _ _)))
        have D4 := Lib.hid (hgk.2 ((KX.out.2.2.1.moved M2.out).moved (Moved.of_below (below_new' _ _))))
        have M4 := Lib.hid (show Moved r w w4 from by
          have m := (KX.out.1.trans M2.out).trans (Moved.of_below (below_new' _ (.cells #[.string s0, .int .i64 i1, .int .i64 i2, .string s3, .slice A4 n4 k4, .slice A5 n5 k5] 108)))
          exact ⟨HG4.out.os.trans m.os, HG4.out.tape.trans m.tape, HG4.out.output.trans m.output, Nat.le_trans m.size HG4.out.size, fun k hk hn => (HG4.out.block k (Nat.lt_of_lt_of_le hk m.size) (fun e => by have := (HRT.out.1.lt k e.symm).1; omega)).trans (m.block k hk hn)⟩)
        have XA := Lib.hid ((KX.out.2.2.2.moved M2.out).moved (Moved.of_below (below_new' _ (.cells #[.string s0, .int .i64 i1, .int .i64 i2, .string s3, .slice A4 n4 k4, .slice A5 n5 k5] 108))))
        have hp0 := PL.out.1
        have hp1 := PL.out.2
        have X4 := Lib.hid (show ArgB r fx p0 p1 w4 from ⟨(HG4.out.block p0 (by have := (Array.getElem?_eq_some_iff.1 XA.out.1).1; omega) (fun e => by have := (HRT.out.1.lt p0 e.symm).1; omega)).trans XA.out.1, (HG4.out.block p1 (by have := (Array.getElem?_eq_some_iff.1 XA.out.2.1).1; omega) (fun e => by have := (HRT.out.1.lt p1 e.symm).1; omega)).trans XA.out.2.1, XA.out.2.2⟩)
        have T4 := Lib.hid (RTr.app hr (by omega) HRT.out.1 HRT.out.2.1 HRT.out.2.2 M2.out (TS.keep (fun _ hk => ⟨⟨hk.1, hk.2⟩, rfl⟩) _ _ T2.out) HO4.out HG4.out HT4.out)
        clear hgk
        go_wp2_with fail
        refine (skip_any r tq2 d 1 cpB _ R4.out).mono ?_
        intro e w5 h5
        have hE := EX.out
        rw [serR, HV.out] at hE
        simp only at hE
        cases hb : atB 1 cpB tq2 with
        | true =>
          rw [hb] at h5 hE
          obtain ⟨rfl, r5, m5⟩ := h5
          rw [skip_yes hb] at r5
          simp only [if_true] at hE
          have T5 := Lib.hid ((T4.out.moved m5 hr).fin (by rw [TrL.snoc_len]; omega))
          have R5 := Lib.hid r5
          have M5 := Lib.hid (M4.out.trans m5)
          have E5 := Lib.hid hE
          clear r5 m5 hE hb
          go_wp2_with fail
          exact HQ.out _ _ (post_ok E5.out.symm (show TP _ _ (.row (encM (addM acc a))) _ by rw [show encM (addM acc a) = (encM acc).snoc ((fun p => encMem p.1 p.2) a) from encM_snoc _ _ _]; exact T5.out) R5.out M5.out)
        | false =>
          rw [hb] at h5 hE
          obtain ⟨rfl, r5, m5⟩ := h5
          rw [skip_no hb] at r5
          simp only [Bool.false_eq_true, if_false] at hE
          have T5 := Lib.hid (T4.out.moved m5 hr)
          have R5 := Lib.hid r5
          have M5 := Lib.hid (M4.out.trans m5)
          have X5 := Lib.hid (X4.out.moved m5)
          have D5 := Lib.hid (D4.out.moved m5)
          have E5 := Lib.hid hE
          clear r5 m5 hE hb
          go_wp2_with fail
          go_roundg g
          case measure => omega
          case rel => exact ⟨addM acc a, tq2, by omega, by omega, by rw [show encM (addM acc a) = (encM acc).snoc ((fun p => encMem p.1 p.2) a) from encM_snoc _ _ _, TrL.snoc_len]; omega, vaside ⟨by rw [show encM (addM acc a) = (encM acc).snoc ((fun p => encMem p.1 p.2) a) from encM_snoc _ _ _]; exact T5.out, M5.out, R5.out, D5.out, G2.out, X5.out, E5.out⟩⟩
end Go.Proofs.YtaohniiemhahdaaGreatDoor
/- The landed arguments and directives. -/
namespace Go.Proofs.YtaohniiemhahdaaGreatDoor
open Go.RowKit

def LayMono {α : Type} (lay : World → (Nat → Prop) → α → Value → Prop) : Prop := ∀ (w : World) (P P' : Nat → Prop) (a : α) (v : Value), (∀ b, P b → P' b) → lay w P a v → lay w P' a v
theorem layR_mono {α : Type} (enc : α → TrL) : LayMono (layR enc) := fun _ _ _ _ _ hP h => TP.keep (fun b hb => ⟨hP b hb, rfl⟩) _ _ h
theorem post_up {α : Type} {r d : Nat} {w w1 w' : World} {lay : World → (Nat → Prop) → α → Value → Prop} {R : Except Int (α × List Tok)} {e : Ending} (hl : LayMono lay) (m : Moved r w w1) (h : Post r d w1 lay R e w') : Post r d w lay R e w' := by
  cases R with
  | error x => exact ⟨h.1, m.trans h.2⟩
  | ok p =>
    obtain ⟨a, ts'⟩ := p
    obtain ⟨⟨v, e1, h1⟩, h2, h3⟩ := of_ok h
    exact ⟨⟨v, e1, hl _ _ _ _ _ (fun b hb => ⟨Nat.le_trans m.size hb.1, hb.2⟩) h1⟩, h2, m.trans h3⟩
theorem two_heap (w : World) (o o' : Obj) : ((w.alloc o).alloc o').heap[w.heap.size]? = some o ∧ ((w.alloc o).alloc o').heap[w.heap.size + 1]? = some o' :=
  ⟨(Below.heap_alloc _ _ _ (by simp)).trans (heap_alloc_new _ _), heap_alloc2_new _ _ _⟩
set_option maxRecDepth 100000 in
set_option maxHeartbeats 4000000 in
theorem args_any (fx : Bool) (d : Nat) (ts : List Tok) (r : Nat) (w : World) (hG : GoodD ts) (hd : d ≤ 16) (hR : Rd w r ts d) (hK : KRd r w) : Calls Tryz.prog 175 #[.pointer (some ⟨r, 0, none⟩), .bool fx] w (Post r d w (layR encM) (argsR fx d ts)) := by
  suffices H : ∀ Q : Ending → World → Prop, (∀ e w', Post r d w (layR encM) (argsR fx d ts) e w' → Q e w') → Calls Tryz.prog 175 #[.pointer (some ⟨r, 0, none⟩), .bool fx] w Q from H _ (fun _ _ h => h)
  intro Q hQ
  have HQ := Lib.hid hQ
  have hr := hR.lt
  have B0 := Lib.hid (two_below' w (.cells #[.pointer (some ⟨r, 0, none⟩)] 69) (.cells #[.bool fx] 4))
  have X0 := Lib.hid (show ArgB r fx w.heap.size (w.heap.size + 1) _ from ⟨(two_heap w (.cells #[.pointer (some ⟨r, 0, none⟩)] 69) (.cells #[.bool fx] 4)).1, (two_heap w (.cells #[.pointer (some ⟨r, 0, none⟩)] 69) (.cells #[.bool fx] 4)).2, by omega, by omega⟩)
  have R0 := Lib.hid (hR.below B0.out)
  have D0 := Lib.hid (hK.moved (Moved.of_below B0.out))
  have HG := Lib.hid hG
  have M0 := Lib.hid (Moved.of_below (r := r) B0.out)
  obtain ⟨q0, _⟩ := one_box X0.out.1
  clear hQ hR hK hG
  go_enter Tryz.func175, Tryz.ntmps175
  go_wp2_with fail
  refine (skip_any r ts d 1 opB _ R0.out).mono ?_
  intro e w1 h
  cases hb : atB 1 opB ts with
  | false =>
    rw [hb] at h
    obtain ⟨rfl, r1, m1⟩ := h
    rw [skip_no hb] at r1
    have R1 := Lib.hid (And.intro r1 (M0.out.trans m1))
    have HB := Lib.hid hb
    clear r1 m1 hb
    go_wp2_with fail
    exact HQ.out _ _ (post_ok (by unfold argsR; rw [HB.out]; rfl) (show TP _ _ (.row (encM .nil)) _ by rw [encM]; exact TP.none _ _) R1.out.1 R1.out.2)
  | true =>
    rw [hb] at h
    obtain ⟨rfl, r1, m1⟩ := h
    rw [skip_yes hb] at r1
    have R1 := Lib.hid (And.intro r1 (M0.out.trans m1))
    have X1 := Lib.hid (X0.out.moved m1)
    have D1 := Lib.hid (D0.out.moved m1)
    have HB := Lib.hid hb
    obtain ⟨q1, _⟩ := one_box X1.out.1
    clear r1 m1 hb q0
    go_wp2_with fail
    refine (serM_any fx w.heap.size (w.heap.size + 1) (memD fx d) (fun _ _ _ h => mem_sfx h) r d ts.tail w1 (fun tq wx g _ hx hk hX => arg1_any fx _ _ d tq r wx g hd hx hk hX) (HG.out.sub (at_sfx HB.out).1) R1.out.1 D1.out X1.out).mono ?_
    intro e w2 h
    have hA : argsR fx d ts = serR (memD fx d) addM cpB (ts.tail.length + 1) .nil ts.tail := by unfold argsR; rw [HB.out]; rfl
    rw [← hA] at h
    have h := post_up (layR_mono _) R1.out.2 h
    cases hv : argsR fx d ts with
    | error x =>
      rw [hv] at h
      obtain ⟨rfl, m⟩ := of_err h
      exact ⟨rfl, HQ.out _ _ (post_err hv m)⟩
    | ok p =>
      obtain ⟨l, ts1⟩ := p
      rw [hv] at h
      obtain ⟨⟨v, rfl, hl⟩, r2, m2⟩ := of_ok h
      obtain ⟨A, c, rfl, hl2⟩ := row_open hl
      have F := Lib.hid (And.intro hl2 (And.intro r2 m2))
      have HV := Lib.hid hv
      clear h hv hl hl2 r2 m2 hA
      go_wp2_with fail
      exact HQ.out _ _ (post_ok HV.out F.out.1 F.out.2.1 F.out.2.2)
theorem info_D : (Tryz.prog.info? 174).map (fun i => (i.zero, i.size, i.bytes)) = some (some (.agg #[.string ⟨#[]⟩, .slice none 0 0]), 2, 40) := by kernel_rfl
theorem dirsF_end {fx : Bool} {d g : Nat} {acc : List DirT} {ts : List Tok} (h : atB 1 atmB ts = false) : dirsF fx d (g + 1) acc ts = .ok (acc, ts) := by rw [dirsF, if_neg (by rw [h]; simp)]
theorem dirsF_on {fx : Bool} {d g : Nat} {acc : List DirT} {ts : List Tok} (h : atB 1 atmB ts = true) : dirsF fx d (g + 1) acc ts = (match nameR ts.tail with
      | none => .error 2
      | some (n, r) =>
        match argsR fx d r with
        | .error x => .error x
        | .ok (m, r2) => dirsF fx d g (acc ++ [(n, m)]) r2) := by rw [dirsF, if_pos h]; rfl
set_option maxRecDepth 100000 in
set_option maxHeartbeats 8000000 in
theorem dirs_any (fx : Bool) (d : Nat) (ts : List Tok) (r : Nat) (w : World) (hG : GoodD ts) (hd : d ≤ 16) (hR : Rd w r ts d) (hK : KRd r w) : Calls Tryz.prog 133 #[.pointer (some ⟨r, 0, none⟩), .bool fx] w (Post r d w (layR (rowOf encD)) (dirsR fx d ts)) := by
  suffices H : ∀ Q : Ending → World → Prop, (∀ e w', Post r d w (layR (rowOf encD)) (dirsR fx d ts) e w' → Q e w') → Calls Tryz.prog 133 #[.pointer (some ⟨r, 0, none⟩), .bool fx] w Q from H _ (fun _ _ h => h)
  intro Q hQ
  obtain ⟨i0, hi, hz0, hz1, hz2⟩ := info_parts info_D
  obtain ⟨RES, hRES⟩ : ∃ RES, dirsR fx d ts = RES := ⟨_, rfl⟩
  rw [hRES] at hQ
  have HQ := Lib.hid hQ
  have HRES := Lib.hid hRES
  have hr := hR.lt
  have hlen : ts.length ≤ 200000 := by obtain ⟨_, _, _, _, h, _⟩ := hR; exact h
  have B0 := Lib.hid (And.intro hR (And.intro hK hG))
  clear hQ hRES hG hR hK
  go_enter Tryz.func133, Tryz.ntmps133
  go_wp2_with fail
  go_loopg [5] (ts.length + 1) (fun g out wx => ∃ (acc : List DirT) (tq : List Tok), tq.length + 1 ≤ g ∧ tq.length ≤ ts.length ∧ acc.length + tq.length ≤ 200000 ∧ Aside (RTr 174 2 w.heap.size wx out (rowOf encD acc) ∧ Moved r w wx ∧ Rd wx r tq d ∧ KRd r wx ∧ GoodD tq ∧ dirsF fx d g acc tq = RES))
  case atStart => exact ⟨[], ts, Nat.le_refl _, Nat.le_refl _, by simpa using hlen, vaside ⟨RTr.start _ _ _ _, Moved.refl _ _, B0.out.1, B0.out.2.1, B0.out.2.2, HRES.out⟩⟩
  case round =>
    obtain ⟨acc, tq, hq, hql, hal, HA⟩ := hrel
    obtain ⟨hrt, hmx, hrx, hkx, hgx, hex⟩ := HA.out
    obtain ⟨Ao, co, rfl⟩ := hrt.shape
    have KX := Lib.hid (And.intro hmx (And.intro hrx hkx))
    have GX := Lib.hid hgx
    have EX := Lib.hid hex
    have HRT := Lib.hid hrt
    clear HA hmx hrx hkx hgx hex hrt
    cases gk with
    | zero => omega
    | succ g =>
      go_wp2_with fail
      refine (skip_any r tq d 1 atmB _ KX.out.2.1).mono ?_
      intro e w1 h
      cases hb : atB 1 atmB tq with
      | false =>
        rw [hb] at h
        obtain ⟨rfl, r1, m1⟩ := h
        rw [skip_no hb] at r1
        have hE := EX.out
        rw [dirsF_end hb] at hE
        have T5 := Lib.hid ((HRT.out.moved m1 hr).fin (by rw [rowOf_len]; omega))
        have R1 := Lib.hid (And.intro r1 (KX.out.1.trans m1))
        have E5 := Lib.hid hE
        clear r1 m1 hE hb
        go_wp2_with fail
        exact HQ.out _ _ (post_ok E5.out.symm T5.out R1.out.1 R1.out.2)
      | true =>
        rw [hb] at h
        obtain ⟨rfl, r1, m1⟩ := h
        rw [skip_yes hb] at r1
        have hE := EX.out
        rw [dirsF_on hb] at hE
        have G1 := Lib.hid (GX.out.sub (at_sfx hb).1)
        have hl1 := (at_sfx hb).2
        have R1 := Lib.hid (And.intro r1 m1)
        have E1 := Lib.hid hE
        clear r1 m1 hE hb
        go_wp2_with fail
        refine (pname_any r tq.tail d _ R1.out.1).mono ?_
        intro e w2 h
        cases hn : nameR tq.tail with
        | none =>
          rw [hn] at h
          obtain ⟨rfl, m⟩ := h
          have hE := E1.out
          rw [hn] at hE
          exact ⟨rfl, HQ.out _ _ (post_err hE.symm ((KX.out.1.trans R1.out.2).trans m))⟩
        | some p =>
          obtain ⟨nm, tq2⟩ := p
          rw [hn] at h
          obtain ⟨rfl, r2, m2⟩ := h
          have hE := E1.out
          rw [hn] at hE
          simp only at hE
          have G2 := Lib.hid (G1.out.sub (name_sfx hn).1)
          have hl2 := (name_sfx hn).2
          have hnm := Lib.hid (G1.out.name hn)
          have R2 := Lib.hid (And.intro r2 (R1.out.2.trans m2))
          have E2 := Lib.hid hE
          clear r2 m2 hE hn
          go_wp2_with fail
          refine (args_any fx d tq2 r _ G2.out hd R2.out.1 (KX.out.2.2.moved R2.out.2)).mono ?_
          intro e w3 h
          cases hv : argsR fx d tq2 with
          | error x =>
            rw [hv] at h
            obtain ⟨rfl, m⟩ := of_err h
            have hE := E2.out
            rw [hv] at hE
            exact ⟨rfl, HQ.out _ _ (post_err hE.symm ((KX.out.1.trans R2.out.2).trans m))⟩
          | ok p =>
            obtain ⟨l, tq3⟩ := p
            rw [hv] at h
            obtain ⟨⟨v, rfl, hl⟩, r3, m3⟩ := of_ok h
            obtain ⟨A, c, rfl, hl2'⟩ := row_open hl
            have hE := E2.out
            rw [hv] at hE
            simp only at hE
            have hl3 := (args_sfx hv).length_le
            have G3 := Lib.hid (G2.out.sub (args_sfx hv))
            have M3 := Lib.hid (R2.out.2.trans m3)
            have R3 := Lib.hid r3
            have E3 := Lib.hid hE
            have T3 := Lib.hid (TS.str hnm.out (TS.row (TP.keep (fun b hb => ⟨⟨Nat.le_trans R2.out.2.size hb.1, hb.2⟩, rfl⟩) _ _ hl2') (TS.nil _ _)) : TS w3 (Fresh wr w3) (encD (nm, l)) [.string nm, .slice A (encM l).len c])
            have hs3 := M3.out.size
            have hs0 := KX.out.1.size
            obtain ⟨xs, P, hown, hvals, hP⟩ := HRT.out
            have HOW := Lib.hid (And.intro hown (And.intro hvals hP))
            have O3 := Lib.hid (own_moved hown M3.out hr)
            clear h hv hl hl2' r3 m3 hE hown hvals hP
            go_wp2_with (at_builtin; refine wpList_append_lies _ rfl _ _ 60 rfl w.heap.size 174 i0 (.agg #[.string ⟨#[]⟩, .slice none 0 0]) 2 40 Tryz.underlying60 hi hz0 hz1 hz2 rfl (by decide) _ (rowOf encD acc).len xs rfl (own_low O3.out (below_new' _ _)) _ 1 1 [.string nm, .slice A (encM l).len c] rfl rfl (fun j u hj => World.news_of_block (heap_alloc_new _ _) j u hj) (by intro y hy; simp at hy; rcases hy with rfl | rfl <;> rfl) (by decide) (by unfold maxLen; rw [rowOf_len]; omega) (by rw [rowOf_len]; omega) (by simp; omega) _ rfl ?_; intro gg cap2 w4 hown4 hgrow hat hlt4; have HG4 := Lib.hid hgrow; have HO4 := Lib.hid hown4; have HT4 := Lib.hid hat; clear hgrow hown4 hat)
            have hgk := grown_keep HG4.out (r := r) (fun b hb => by have := (HOW.out.1.lt b hb).1; omega)
            have R4 := hgk.1 _ _ (R3.out.below (below_new' _ _))
            have D4 := hgk.2 ((KX.out.2.2.moved M3.out).moved (Moved.of_below (below_new' _ _)))
            have M4 : Moved r w w4 := by
              have m := (KX.out.1.trans M3.out).trans (Moved.of_below (below_new' _ (.cells #[.string nm, .slice A (encM l).len c] 174)))
              exact ⟨HG4.out.os.trans m.os, HG4.out.tape.trans m.tape, HG4.out.output.trans m.output, Nat.le_trans m.size HG4.out.size, fun k hk hn => (HG4.out.block k (Nat.lt_of_lt_of_le hk m.size) (fun e => by have := (HOW.out.1.lt k e.symm).1; omega)).trans (m.block k hk hn)⟩
            have T4 := RTr.app hr (by omega) HOW.out.1 HOW.out.2.1 HOW.out.2.2 M3.out (TS.keep (fun _ hk => ⟨⟨hk.1, hk.2⟩, rfl⟩) _ _ T3.out) HO4.out HG4.out HT4.out
            go_roundg g
            case measure => omega
            case rel => exact ⟨acc ++ [(nm, l)], tq3, by omega, by omega, by rw [List.length_append]; simp; omega, vaside ⟨by rw [rowOf_snoc]; exact T4, M4, R4, D4, G3.out, E3.out⟩⟩
end Go.Proofs.YtaohniiemhahdaaGreatDoor
