/- The walk of the law ValueUnlike. -/
import Derived.Test.YtcdcfhplkimecaaDoorVPair
import Derived.Test.YtcdcfhplkimecaaDoorVSameT
import Derived.Deep.RegionHeld3
namespace Go.Proofs.YtcdcfhplkimecaaDoor
open Go.RowKit

theorem W64_small {n : Nat} (h : n ≤ 1048576) : W64 n = (n : Int) := by
  unfold W64
  simp only [IntKind.wrap_i64]
  omega
/-- Two values in their boxes, and two lists of tokens. -/
def KU (w : World) (c0 c1 c2 c3 c4 d0 d1 d2 d3 d4 : Value) (a b : VT) (A A' : Option Addr) (n n' : Nat) (ts us : List (Int × ByteArray)) (W : World) : Prop := KY w c0 c1 c2 c3 c4 d0 d1 d2 d3 d4 a b W ∧ TL W A n ts ∧ TL W A' n' us
theorem KU.next {w W W' : World} {c0 c1 c2 c3 c4 d0 d1 d2 d3 d4 : Value} {a b : VT} {A A' : Option Addr} {n n' : Nat} {ts us : List (Int × ByteArray)} (h : KU w c0 c1 c2 c3 c4 d0 d1 d2 d3 d4 a b A A' n n' ts us W) (hb : Below W.heap.size W W') : KU w c0 c1 c2 c3 c4 d0 d1 d2 d3 d4 a b A A' n n' ts us W' := ⟨h.1.next hb, h.2.1.below hb, h.2.2.below hb⟩
theorem KU.drawn {w W : World} {c0 c1 c2 c3 c4 d0 d1 d2 d3 d4 : Value} {a b : VT} {A A' : Option Addr} {n n' : Nat} {ts us : List (Int × ByteArray)} (h : KU w c0 c1 c2 c3 c4 d0 d1 d2 d3 d4 a b A A' n n' ts us W) : KU w c0 c1 c2 c3 c4 d0 d1 d2 d3 d4 a b A A' n n' ts us W.drew := h.next (Below.drew (Below.refl _ _))
theorem KU.written {w W : World} {c0 c1 c2 c3 c4 d0 d1 d2 d3 d4 : Value} {a b : VT} {A A' : Option Addr} {n n' : Nat} {ts us : List (Int × ByteArray)} (h : KU w c0 c1 c2 c3 c4 d0 d1 d2 d3 d4 a b A A' n n' ts us W) : W.cell? ⟨w.heap.size, 0, none⟩ = some c0 ∧ W.cell? ⟨w.heap.size, 1, none⟩ = some c1 ∧ W.cell? ⟨w.heap.size, 2, none⟩ = some c2 ∧ W.cell? ⟨w.heap.size, 3, none⟩ = some c3 ∧ W.cell? ⟨w.heap.size, 4, none⟩ = some c4 ∧
    W.cell? ⟨w.heap.size + 1, 0, none⟩ = some d0 ∧ W.cell? ⟨w.heap.size + 1, 1, none⟩ = some d1 ∧ W.cell? ⟨w.heap.size + 1, 2, none⟩ = some d2 ∧ W.cell? ⟨w.heap.size + 1, 3, none⟩ = some d3 ∧ W.cell? ⟨w.heap.size + 1, 4, none⟩ = some d4 ∧
    KU w c0 c1 c2 c3 c4 d0 d1 d2 d3 d4 a b A A' n n' ts us W := by
  obtain ⟨f0, f1, f2, f3, f4, g0, g1, g2, g3, g4, _⟩ := h.1.written
  exact ⟨f0, f1, f2, f3, f4, g0, g1, g2, g3, g4, h⟩
theorem ku_of {w W : World} {c0 c1 c2 c3 c4 d0 d1 d2 d3 d4 : Value} {a b : VT} {A A' : Option Addr} {n n' : Nat} {ts us : List (Int × ByteArray)} {p0 p1 p2 p3 p4 p5 p6 p7 p8 p9 : Prop} (h : p0 ∧ p1 ∧ p2 ∧ p3 ∧ p4 ∧ p5 ∧ p6 ∧ p7 ∧ p8 ∧ p9 ∧ KU w c0 c1 c2 c3 c4 d0 d1 d2 d3 d4 a b A A' n n' ts us W) : KU w c0 c1 c2 c3 c4 d0 d1 d2 d3 d4 a b A A' n n' ts us W := h.2.2.2.2.2.2.2.2.2.2
theorem toks_len (v : VT) : (toksV v).length ≤ 4 * sizeV v := by
  unfold toksV
  split
  · have := vtok_len v; omega
  · simp
/-- The tokens of two plain values are alike just if the values are. -/
theorem unlike {a b : VT} (ha : plainB a = true) (hb : plainB b = true) (ra : RngV a) (rb : RngV b) : tokEq (toksV a) (toksV b) = samB a b := by
  have fa : fitV nameB a = true := by unfold plainB at ha; rw [Bool.and_eq_true] at ha; exact ha.1
  have fb : fitV nameB b = true := by unfold plainB at hb; rw [Bool.and_eq_true] at hb; exact hb.1
  have h := tok_same nameB fa ra fb rb
  unfold toksV
  rw [if_pos ha, if_pos hb]
  by_cases e : a = b
  · rw [tokEq_yes (h.2 e), e, samB_self]
  · rw [tokEq_no (fun e' => e (h.1 e'))]
    unfold samB; simp [e]
theorem live_tokens {w : World} {x : Value} {u : VT} (hz : sizeV u ≤ 9000) (hr : RngV u) (hx : LiveV w x u) (hw : Laid5 w) : Calls Tryd.prog 11 #[x] w fun e w' => ∃ A c, e = .returned (.tuple #[.slice A (toksV u).length c, .bool (plainB u)]) ∧ TL w' A (toksV u).length (toksV u) ∧ Below w.heap.size w w' := by
  obtain ⟨c0, c1, c2, c3, c4, rfl, hu⟩ := hx
  refine Calls.mono (tokens_any u hz hr _ _ _ _ _ w w.heap.size (Nat.le_refl _) hu hw) ?_
  rintro e w' ⟨V, rfl, hT, hb⟩
  obtain ⟨A, c, rfl, hL⟩ := hT.live
  exact ⟨A, c, rfl, hL, hb⟩
theorem live_plain {w : World} {x : Value} {u : VT} (hz : sizeV u ≤ 9000) (hx : LiveV w x u) (hw : Laid5 w) : Calls Tryd.prog 16 #[x] w fun e w' => e = .returned (.bool (plainB u)) ∧ Below w.heap.size w w' := by
  obtain ⟨c0, c1, c2, c3, c4, rfl, hu⟩ := hx
  exact vplain_any u hz _ _ _ _ _ w w.heap.size (Nat.le_refl _) hu hw
end Go.Proofs.YtcdcfhplkimecaaDoor
namespace Go.Proofs.YtcdcfhplkimecaaDoor.LVUnlike
open Go.RowKit
set_option maxRecDepth 100000 in
set_option maxHeartbeats 8000000 in
theorem law (a b : VT) (c0 c1 c2 c3 c4 d0 d1 d2 d3 d4 : Value) (w : World) (ha : VAt w w.heap.size a c0 c1 c2 c3 c4) (hb : VAt w w.heap.size b d0 d1 d2 d3 d4) (hza : sizeV a ≤ 1048576) (hzb : sizeV b ≤ 1048576) (hra : RngV a) (hrb : RngV b) (hw : Laid5 w) :
    Calls Tryd.prog 6 #[.agg #[c0, c1, c2, c3, c4], .agg #[d0, d1, d2, d3, d4]] w fun e w' => e = .returned (.bool true) ∧ Below w.heap.size w w' := by
  have K0 := Lib.hid (KY.start w _ _ _ _ _ _ _ _ _ _ a b ha hb hw)
  have S1 := fun wx (h : LiveV wx (.agg #[c0, c1, c2, c3, c4]) a) => Lib.hid (by have h := live_size h; rw [W64_small hza] at h; exact h)
  have S2 := fun wx (h : LiveV wx (.agg #[d0, d1, d2, d3, d4]) b) => Lib.hid (by have h := live_size h; rw [W64_small hzb] at h; exact h)
  obtain ⟨na, hna⟩ : ∃ n, sizeV a = n := ⟨_, rfl⟩
  obtain ⟨nb, hnb⟩ : ∃ n, sizeV b = n := ⟨_, rfl⟩
  rw [hna] at S1
  rw [hnb] at S2
  have HNA := Lib.hid hna
  have HNB := Lib.hid hnb
  have HRA := Lib.hid hra
  have HRB := Lib.hid hrb
  obtain ⟨ak, an, sa, al, am⟩ := a
  obtain ⟨bk, bn, sb, bl, bm⟩ := b
  unfold VAt at ha hb
  obtain ⟨rfl, rfl, rfl, _, ⟨A3, c3', rfl, _, _⟩, A4, c4', rfl, _, _⟩ := ha
  obtain ⟨rfl, rfl, rfl, _, ⟨A5, c5', rfl, _, _⟩, A6, c6', rfl, _, _⟩ := hb
  clear hw hna hnb hza hzb hra hrb
  generalize VT.mk ak an sa al am = a at *
  generalize VT.mk bk bn sb bl bm = b at *
  by_cases h1 : (na : Int) > 2000
  · go_enter Tryd.func6, Tryd.ntmps6
    go_wp2_with fail
    refine (S1 _ K0.out.2.2.1).out.mono ?_
    rintro e w2 ⟨rfl, hb2⟩
    have K2 := Lib.hid (K0.out.next hb2)
    clear hb2
    go_wp2_with fail
    refine K2.out.awake.mono ?_
    rintro e w3 ⟨rfl, hb3⟩
    have B3 := Lib.hid (two_below K2.out.below hb3)
    clear hb3
    go_wp2_with fail
    go_ret
    exact ⟨rfl, B3.out⟩
  · by_cases h2 : (nb : Int) > 2000
    · go_enter Tryd.func6, Tryd.ntmps6
      go_wp2_with fail
      refine (S1 _ K0.out.2.2.1).out.mono ?_
      rintro e w2 ⟨rfl, hb2⟩
      have K2 := Lib.hid (K0.out.next hb2)
      obtain ⟨_, ⟨g0, g1, g2, g3, g4⟩, _⟩ := K2.out
      clear hb2
      go_wp2_with fail
      refine (S2 _ K2.out.2.2.2.1).out.mono ?_
      rintro e w3 ⟨rfl, hb3⟩
      have K3 := Lib.hid (K2.out.next hb3)
      clear hb3 g0 g1 g2 g3 g4
      go_wp2_with fail
      refine K3.out.awake.mono ?_
      rintro e w4 ⟨rfl, hb4⟩
      have B4 := Lib.hid (two_below K3.out.below hb4)
      clear hb4
      go_wp2_with fail
      go_ret
      exact ⟨rfl, B4.out⟩
    · have hza : sizeV a ≤ 9000 := by have := HNA.out; omega
      have hzb : sizeV b ≤ 9000 := by have := HNB.out; omega
      have T1 := fun wx (h : LiveV wx (.agg #[.int .i64 ak, .int .i64 an, .string sa, .slice A3 al.len c3', .slice A4 am.len c4']) a) (hw : Laid5 wx) => Lib.hid (live_tokens hza HRA.out h hw)
      have T2 := fun wx (h : LiveV wx (.agg #[.int .i64 bk, .int .i64 bn, .string sb, .slice A5 bl.len c5', .slice A6 bm.len c6']) b) (hw : Laid5 wx) => Lib.hid (live_tokens hzb HRB.out h hw)
      have P1 := fun wx (h : LiveV wx (.agg #[.int .i64 ak, .int .i64 an, .string sa, .slice A3 al.len c3', .slice A4 am.len c4']) a) (hw : Laid5 wx) => Lib.hid (live_plain hza h hw)
      have P2 := fun wx (h : LiveV wx (.agg #[.int .i64 bk, .int .i64 bn, .string sb, .slice A5 bl.len c5', .slice A6 bm.len c6']) b) (hw : Laid5 wx) => Lib.hid (live_plain hzb h hw)
      have hun := Lib.hid (fun h h' => unlike (a := a) (b := b) h h' HRA.out HRB.out)
      have hta := toks_len a
      have htb := toks_len b
      have hna' : plainB a = false → toksV a = [] := fun h => by unfold toksV; rw [h]; simp
      have hnb' : plainB b = false → toksV b = [] := fun h => by unfold toksV; rw [h]; simp
      obtain ⟨pa, hpa⟩ : ∃ p, plainB a = p := ⟨_, rfl⟩
      obtain ⟨pb, hpb⟩ : ∃ p, plainB b = p := ⟨_, rfl⟩
      obtain ⟨ta, hta'⟩ : ∃ t, toksV a = t := ⟨_, rfl⟩
      obtain ⟨tb, htb'⟩ : ∃ t, toksV b = t := ⟨_, rfl⟩
      rw [hpa, hpb, hta', htb'] at hun
      rw [hpa, hta'] at hna' T1
      rw [hpb, htb'] at hnb' T2
      rw [hpa] at P1
      rw [hpb] at P2
      rw [hta'] at hta
      rw [htb'] at htb
      have HA := Lib.hid hna'
      have HB := Lib.hid hnb'
      have hta2 : ta.length ≤ 200000 := by omega
      have htb2 : tb.length ≤ 200000 := by omega
      have HTA := Lib.hid hta2
      have HTB := Lib.hid htb2
      clear hpa hpb hta hta' htb htb' hna' hnb' hza hzb HRA HRB HNA HNB
      cases pa <;> cases pb
      case true.true =>
        have hE := hun.out rfl rfl
        obtain ⟨x, hx⟩ : ∃ x, samB a b = x := ⟨_, rfl⟩
        rw [hx] at hE
        clear hun HA HB hta2 htb2
        go_enter Tryd.func6, Tryd.ntmps6
        go_wp2_with fail
        refine (S1 _ K0.out.2.2.1).out.mono ?_
        rintro e w2 ⟨rfl, hb2⟩
        have K2 := Lib.hid (K0.out.next hb2)
        obtain ⟨⟨f0, f1, f2, f3, f4⟩, ⟨g0, g1, g2, g3, g4⟩, _⟩ := K2.out
        clear hb2 S1 K0
        go_wp2_with fail
        refine (S2 _ K2.out.2.2.2.1).out.mono ?_
        rintro e w3 ⟨rfl, hb3⟩
        have K3 := Lib.hid (K2.out.next hb3)
        clear hb3 f0 f1 f2 f3 f4 g0 g1 g2 g3 g4 S2 K2
        obtain ⟨⟨f0, f1, f2, f3, f4⟩, ⟨g0, g1, g2, g3, g4⟩, _⟩ := K3.out
        go_wp2_with fail
        refine (T1 _ K3.out.one K3.out.2.2.2.2.1).out.mono ?_
        rintro e w4 ⟨AL, cl, rfl, hl4, hb4⟩
        have K4 := Lib.hid (K3.out.next hb4)
        have L4 := Lib.hid hl4
        clear hb4 f0 f1 f2 f3 f4 g0 g1 g2 g3 g4 T1 K3 hl4
        obtain ⟨⟨f0, f1, f2, f3, f4⟩, ⟨g0, g1, g2, g3, g4⟩, _⟩ := K4.out
        go_wp2_with fail
        refine (T2 _ K4.out.two K4.out.2.2.2.2.1).out.mono ?_
        rintro e w5 ⟨AM, cm, rfl, hl5, hb5⟩
        have K5' := Lib.hid (K4.out.next hb5)
        have L5 := Lib.hid (L4.out.below hb5)
        have M5 := Lib.hid hl5
        clear hb5 f0 f1 f2 f3 f4 g0 g1 g2 g3 g4 T2 K4 hl5 L4
        obtain ⟨⟨f0, f1, f2, f3, f4⟩, ⟨g0, g1, g2, g3, g4⟩, _⟩ := K5'.out
        go_wp2_with fail
        refine (P1 _ K5'.out.one K5'.out.2.2.2.2.1).out.mono ?_
        rintro e w6 ⟨rfl, hb6⟩
        have K6 := Lib.hid (K5'.out.next hb6)
        have L6 := Lib.hid (L5.out.below hb6)
        have M6 := Lib.hid (M5.out.below hb6)
        clear hb6 f0 f1 f2 f3 f4 g0 g1 g2 g3 g4 P1 K5' L5 M5
        obtain ⟨⟨f0, f1, f2, f3, f4⟩, ⟨g0, g1, g2, g3, g4⟩, _⟩ := K6.out
        go_wp2_with fail
        refine (P2 _ K6.out.two K6.out.2.2.2.2.1).out.mono ?_
        rintro e w7 ⟨rfl, hb7⟩
        have U7 : Hid (KU w _ _ _ _ _ _ _ _ _ _ a b AL AM ta.length tb.length ta tb w7) := Lib.hid ⟨K6.out.next hb7, L6.out.below hb7, M6.out.below hb7⟩
        clear hb7 f0 f1 f2 f3 f4 g0 g1 g2 g3 g4 P2 K6 L6 M6
        go_wp2_with fail
        go_region_held3 (fun W => W.cell? ⟨w.heap.size, 0, none⟩ = some (.int .i64 ak) ∧ W.cell? ⟨w.heap.size, 1, none⟩ = some (.int .i64 an) ∧ W.cell? ⟨w.heap.size, 2, none⟩ = some (.string sa) ∧ W.cell? ⟨w.heap.size, 3, none⟩ = some (.slice A3 al.len c3') ∧ W.cell? ⟨w.heap.size, 4, none⟩ = some (.slice A4 am.len c4') ∧
            W.cell? ⟨w.heap.size + 1, 0, none⟩ = some (.int .i64 bk) ∧ W.cell? ⟨w.heap.size + 1, 1, none⟩ = some (.int .i64 bn) ∧ W.cell? ⟨w.heap.size + 1, 2, none⟩ = some (.string sb) ∧ W.cell? ⟨w.heap.size + 1, 3, none⟩ = some (.slice A5 bl.len c5') ∧ W.cell? ⟨w.heap.size + 1, 4, none⟩ = some (.slice A6 bm.len c6') ∧
            KU w (.int .i64 ak) (.int .i64 an) (.string sa) (.slice A3 al.len c3') (.slice A4 am.len c4') (.int .i64 bk) (.int .i64 bn) (.string sb) (.slice A5 bl.len c5') (.slice A6 bm.len c6') a b AL AM ta.length tb.length ta tb W)
          (first
            | exact KU.written U7.out.drawn
            | exact KU.written (KU.next (ku_of (by assumption)) (by assumption))
            | go_keep)
          ((first
            | (go_at_call 24; refine (live_same (by exact (ku_of (by assumption)).1.one) (by exact (ku_of (by assumption)).1.two)).mono ?_; rintro e w' ⟨rfl, hb⟩)
            | (go_at_call 13; refine (toks_same _ _ _ _ _ _ ta tb _ (by exact (ku_of (by assumption)).2.1) (by exact (ku_of (by assumption)).2.2) HTA.out HTB.out).mono ?_; rintro e w' ⟨rfl, hb⟩)
            | (go_at_call 9; refine (KY.awake (ku_of (by assumption)).1).mono ?_; rintro e w' ⟨rfl, hb⟩)))
        all_goals
          have KB5 := Lib.hid (ku_of (by assumption)).1.below
          go_wp2_with fail
          go_ret
          exact ⟨rfl, KB5.out⟩
      all_goals
        have hA := HA.out
        have hB := HB.out
        first | (have h0 := hA rfl) | skip
        first | (have h0' := hB rfl) | skip
        clear hA hB HA HB hun HTA HTB
        try subst h0
        try subst h0'
        go_enter Tryd.func6, Tryd.ntmps6
        go_wp2_with fail
        refine (S1 _ K0.out.2.2.1).out.mono ?_
        rintro e w2 ⟨rfl, hb2⟩
        have K2 := Lib.hid (K0.out.next hb2)
        obtain ⟨⟨f0, f1, f2, f3, f4⟩, ⟨g0, g1, g2, g3, g4⟩, _⟩ := K2.out
        clear hb2 S1 K0
        go_wp2_with fail
        refine (S2 _ K2.out.2.2.2.1).out.mono ?_
        rintro e w3 ⟨rfl, hb3⟩
        have K3 := Lib.hid (K2.out.next hb3)
        clear hb3 f0 f1 f2 f3 f4 g0 g1 g2 g3 g4 S2 K2
        obtain ⟨⟨f0, f1, f2, f3, f4⟩, ⟨g0, g1, g2, g3, g4⟩, _⟩ := K3.out
        go_wp2_with fail
        refine (T1 _ K3.out.one K3.out.2.2.2.2.1).out.mono ?_
        rintro e w4 ⟨AL, cl, rfl, hl4, hb4⟩
        have K4 := Lib.hid (K3.out.next hb4)
        clear hb4 f0 f1 f2 f3 f4 g0 g1 g2 g3 g4 T1 K3 hl4
        obtain ⟨⟨f0, f1, f2, f3, f4⟩, ⟨g0, g1, g2, g3, g4⟩, _⟩ := K4.out
        go_wp2_with fail
        refine (T2 _ K4.out.two K4.out.2.2.2.2.1).out.mono ?_
        rintro e w5 ⟨AM, cm, rfl, hl5, hb5⟩
        have K5' := Lib.hid (K4.out.next hb5)
        clear hb5 f0 f1 f2 f3 f4 g0 g1 g2 g3 g4 T2 K4 hl5
        obtain ⟨⟨f0, f1, f2, f3, f4⟩, ⟨g0, g1, g2, g3, g4⟩, _⟩ := K5'.out
        go_wp2_with fail
        refine (P1 _ K5'.out.one K5'.out.2.2.2.2.1).out.mono ?_
        rintro e w6 ⟨rfl, hb6⟩
        have K6 := Lib.hid (K5'.out.next hb6)
        clear hb6 f0 f1 f2 f3 f4 g0 g1 g2 g3 g4 P1 K5'
        obtain ⟨⟨f0, f1, f2, f3, f4⟩, ⟨g0, g1, g2, g3, g4⟩, _⟩ := K6.out
        go_wp2_with fail
        refine (P2 _ K6.out.two K6.out.2.2.2.2.1).out.mono ?_
        rintro e w7 ⟨rfl, hb7⟩
        have K7 := Lib.hid (K6.out.next hb7)
        clear hb7 f0 f1 f2 f3 f4 g0 g1 g2 g3 g4 P2 K6
        go_wp2_with fail
        refine K7.out.awake.mono ?_
        rintro e w8 ⟨rfl, hb8⟩
        have B8 := Lib.hid (two_below K7.out.below hb8)
        clear hb8
        go_wp2_with fail
        go_ret
        exact ⟨rfl, B8.out⟩
end Go.Proofs.YtcdcfhplkimecaaDoor.LVUnlike
