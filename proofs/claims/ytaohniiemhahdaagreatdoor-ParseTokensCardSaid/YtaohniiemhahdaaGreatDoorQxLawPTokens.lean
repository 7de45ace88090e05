/- The walk of the law ParseTokens. -/
import Derived.Test.YtaohniiemhahdaaGreatDoorQc45
import Derived.Test.YtaohniiemhahdaaGreatDoorQc42
namespace Go.Proofs.YtaohniiemhahdaaGreatDoor.LPTokens
open Go.RowKit

theorem doc_at {w W : World} {P : Nat → Prop} {D : DocT} {A0 A1 : Option Addr} {n0 k0 n1 k1 : Nat} (h : TS w P (encDoc D) [.slice A0 n0 k0, .slice A1 n1 k1]) (hP : ∀ b, P b → b < w.heap.size) (hb : Below w.heap.size w W) :
    n0 = D.ops.length ∧ n1 = D.frags.length ∧ DocAt W W.heap.size D A0 A1 := by
  simp only [encDoc, TS, TP] at h
  obtain ⟨c0, _, e0, ⟨Ao, ko, rfl, hol, hO⟩, c1, _, rfl, ⟨Af, kf, rfl, hfl, hF⟩, rfl⟩ := h
  rw [rowOf_len] at hol hfl e0
  rw [rowOf_len] at e0
  injection e0 with e0 e1
  injection e0 with q1 q2 q3
  injection e1 with e1 _
  injection e1 with p1 p2 p3
  subst q1 p1
  exact ⟨q2, p2, hol, hfl, RowT.keep (fun b h => ⟨Nat.lt_of_lt_of_le (hP b h) hb.size, hb.block b (hP b h)⟩) _ _ hO, RowT.keep (fun b h => ⟨Nat.lt_of_lt_of_le (hP b h) hb.size, hb.block b (hP b h)⟩) _ _ hF⟩
theorem doc_none (W : World) (A0 A1 : Option Addr) : DocAt W W.heap.size ⟨[], []⟩ A0 A1 := by
  refine ⟨Nat.zero_le _, Nat.zero_le _, ?_, ?_⟩
  · show RowT W _ (rowOf encOp []) A0
    unfold rowOf RowT; trivial
  · show RowT W _ (rowOf encF []) A1
    unfold rowOf RowT; trivial
theorem res_same {wa wa' wb wb' W : World} {R : Except Int DocT} {x x' : Int} {A0 A1 A0' A1' : Option Addr} {n0 k0 n1 k1 n0' k0' n1' k1' : Nat} (h1 : Res encDoc [.slice none 0 0, .slice none 0 0] wa wa' R x [.slice A0 n0 k0, .slice A1 n1 k1]) (h2 : Res encDoc [.slice none 0 0, .slice none 0 0] wb wb' R x' [.slice A0' n0' k0', .slice A1' n1' k1']) (b1 : Below wa'.heap.size wa' W) (b2 : Below wb'.heap.size wb' W) :
    x = x' ∧ ∃ D : DocT, n0 = D.ops.length ∧ n1 = D.frags.length ∧ n0' = D.ops.length ∧ n1' = D.frags.length ∧ DocAt W W.heap.size D A0 A1 ∧ DocAt W W.heap.size D A0' A1' := by
  cases R with
  | error y =>
    obtain ⟨rfl, _, e⟩ := h1
    obtain ⟨rfl, _, e'⟩ := h2
    injection e with e0 e1
    injection e0 with _ q2 _
    injection e1 with e1 _
    injection e1 with _ q3 _
    injection e' with e0 e1
    injection e0 with _ q4 _
    injection e1 with e1 _
    injection e1 with _ q5 _
    exact ⟨rfl, ⟨[], []⟩, q2, q3, q4, q5, doc_none _ _ _, doc_none _ _ _⟩
  | ok D =>
    obtain ⟨rfl, h1⟩ := h1
    obtain ⟨rfl, h2⟩ := h2
    obtain ⟨q2, q3, d1⟩ := doc_at h1 (fun b h => h.2) b1
    obtain ⟨q4, q5, d2⟩ := doc_at h2 (fun b h => h.2) b2
    exact ⟨rfl, D, q2, q3, q4, q5, d1, d2⟩

set_option maxRecDepth 100000 in
set_option maxHeartbeats 8000000 in
theorem walk (s : ByteArray) (w : World) (hz : s.size ≤ 9223372036854775807) (h3 : Laid3 w) (h5 : Laid5 w) : Calls Tryz.prog 5 #[.string s] w fun e w' => e = .returned (.bool true) ∧ Below w.heap.size w w' := by
  have HA := fun wx (hb : Below w.heap.size w wx) => Lib.hid (awake_any wx (h3.below hb) (h5.below hb))
  by_cases hs : 3000 < s.size
  · have t1 : decide ((3000 : Int) < (s.size : Int)) = true := by simp; omega
    clear h3 h5
    go_enter Tryz.func5, Tryz.ntmps5
    go_wp2_with fail
    refine (HA _ (Below.refl _ _)).out.mono ?_
    rintro e w1 ⟨rfl, hb1⟩
    have B1 := Lib.hid hb1
    clear hb1
    go_wp2_with fail
    go_ret
    exact ⟨rfl, B1.out⟩
  · have t1 : decide ((3000 : Int) < (s.size : Int)) = false := by simp; omega
    have hs' : s.size ≤ 3000 := by omega
    have HS := Lib.hid hs'
    have HT := Lib.hid (read_any s w (by omega) h3)
    have HP := fun (t : ByteArray) wx (hb : Below w.heap.size w wx) (ht : t.size ≤ 9000) => Lib.hid (pread_any t wx ht (h3.below hb) (h5.below hb))
    have HF := fun A c wx (hb : Below w.heap.size w wx) h => Lib.hid (print_front hs' (A := A) (c := c) (k := (readS s.data.toList).1.length) (w := wx) h (Nat.le_refl _) (h3.below hb))
    have hle := readS_len (s := s) (by omega)
    clear h3 h5 hs hs'
    go_enter Tryz.func5, Tryz.ntmps5
    go_wp2_with fail
    refine HT.out.mono ?_
    rintro e w1 ⟨A, cap, rfl, hown, hb1⟩
    have B1 := Lib.hid hb1
    have TS := Lib.hid (ts_row hown)
    clear hb1 hown HT
    by_cases h0 : (readS s.data.toList).2 = 0
    · have hall : (readS s.data.toList).1.take (readS s.data.toList).1.length = (readS s.data.toList).1 := List.take_length
      have hZ := print_size HS.out (readS s.data.toList).1.length
      have hfr := front_read (s := s) (readS s.data.toList).1.length
      rw [hall] at HF hZ hfr
      obtain ⟨S, hS⟩ : ∃ S : ByteArray, (⟨(printL (readS s.data.toList).1).toArray⟩ : ByteArray) = S := ⟨_, rfl⟩
      rw [hS] at HF hZ hfr
      have hcap := TS.out.2
      obtain ⟨ts, hts⟩ : ∃ ts, (readS s.data.toList).1 = ts := ⟨_, rfl⟩
      obtain ⟨R, hR⟩ : ∃ R, docR (tokB ts) = R := ⟨_, rfl⟩
      have hR1 : Hid (wholeA docRr s.data.toList = R) := Lib.hid (by rw [doc_of (ts := ts) (by rw [← h0, ← hts]), hR])
      rw [hts] at HF TS hfr hcap hle ⊢
      rw [h0]
      have hR2 : Hid (S.size ≤ 8192 → wholeA docRr S.data.toList = R) := Lib.hid (fun h => by rw [doc_of (hfr h), hR])
      have hts' := Lib.hid hts
      clear hall hfr hS hR h0 hts
      go_wp2_with fail
      refine (HF A _ _ B1.out TS.out.1).out.mono ?_
      rintro e w2 ⟨rfl, hb2⟩
      have B2 := Lib.hid (B1.out.trans (hb2.mono B1.out.size))
      clear hb2
      by_cases hbig : 8192 < S.size
      · have t4 : decide ((8192 : Int) < (S.size : Int)) = true := by simp; omega
        go_wp2_with fail
        refine (HA _ B2.out).out.mono ?_
        rintro e w4 ⟨rfl, hb4⟩
        have B4 := Lib.hid (B2.out.trans (hb4.mono B2.out.size))
        clear hb4
        go_wp2_with fail
        go_ret
        exact ⟨rfl, B4.out⟩
      · have t4 : decide ((8192 : Int) < (S.size : Int)) = false := by simp; omega
        have hS8 := Lib.hid (show S.size ≤ 8192 by omega)
        clear hbig
        go_wp2_with fail
        refine (HP s _ B2.out (by have := HS.out; omega)).out.mono ?_
        rintro e w3 ⟨A0, n0, k0, A1, n1, k1, x, rfl, hres, hb3⟩
        rw [hR1.out] at hres
        have RS1 := Lib.hid hres
        have B3 := Lib.hid (B2.out.trans (hb3.mono B2.out.size))
        have B3a := Lib.hid (B3.out.alloc B3.out.size (.cells #[.slice A0 n0 k0, .slice A1 n1 k1] 26))
        have Y := Lib.hid (heap_alloc_last w3 (.cells #[.slice A0 n0 k0, .slice A1 n1 k1] 26))
        have L3 := Lib.hid (below_new' w3 (.cells #[.slice A0 n0 k0, .slice A1 n1 k1] 26))
        have hSZ := Lib.hid (show (w3.alloc (.cells #[.slice A0 n0 k0, .slice A1 n1 k1] 26)).heap.size = w3.heap.size + 1 by simp)
        clear hres hb3
        go_wp2_with fail
        refine (HP S _ B3a.out (by have := hS8.out; omega)).out.mono ?_
        rintro e w4 ⟨A0', n0', k0', A1', n1', k1', x', rfl, hres, hb4⟩
        rw [hR2.out hS8.out] at hres
        have hlt : w3.heap.size < w4.heap.size := by have := hb4.size; have := hSZ.out; omega
        have Z := Lib.hid ((hb4.block w3.heap.size (by rw [hSZ.out]; omega)).trans Y.out)
        have c0 : w4.cell? ⟨w3.heap.size, 0, none⟩ = some (.slice A0 n0 k0) := by simp only [World.cell?]; rw [Z.out]; rfl
        have c1 : w4.cell? ⟨w3.heap.size, 1, none⟩ = some (.slice A1 n1 k1) := by simp only [World.cell?]; rw [Z.out]; rfl
        have B4 := Lib.hid (B3a.out.trans (hb4.mono B3a.out.size))
        have B4a := Lib.hid (B4.out.alloc B4.out.size (.cells #[.slice A0' n0' k0', .slice A1' n1' k1'] 26))
        have L4 := below_new' w4 (.cells #[.slice A0' n0' k0', .slice A1' n1' k1'] 26)
        obtain ⟨rfl, D, rfl, rfl, rfl, rfl, D1, D2⟩ := res_same RS1.out hres ((L3.out.trans (hb4.mono L3.out.size)).trans (L4.mono (Nat.le_trans L3.out.size hb4.size))) L4
        have HD := Lib.hid (sdoc_yes D A0 A0' A1 A1' k0 k0' k1 k1' _ _ (Nat.le_refl _) D1 D2)
        have eX : (x == x) = true := by simp
        clear hres hb4 L4 D1 D2
        go_wp2_with fail
        refine HD.out.mono ?_
        rintro e w5 ⟨rfl, hb5⟩
        have B5 := Lib.hid (B4a.out.trans (hb5.mono B4a.out.size))
        clear hb5
        go_wp2_with fail
        refine (HA _ B5.out).out.mono ?_
        rintro e w6 ⟨rfl, hb6⟩
        have B6 := Lib.hid (B5.out.trans (hb6.mono B5.out.size))
        clear hb6
        go_wp2_with fail
        go_ret
        exact ⟨rfl, B6.out⟩
    · have hE : Hid (wholeA docRr s.data.toList = .error (readS s.data.toList).2) := Lib.hid (by unfold wholeA; rw [if_pos h0])
      have t2 : ((readS s.data.toList).2 != 0) = true := by simpa using h0
      obtain ⟨y, hy⟩ : ∃ y, (readS s.data.toList).2 = y := ⟨_, rfl⟩
      rw [hy] at t2 hE ⊢
      clear h0 hy
      go_wp2_with fail
      refine (HP s _ B1.out (by have := HS.out; omega)).out.mono ?_
      rintro e w3 ⟨A0, n0, k0, A1, n1, k1, x, rfl, hres, hb3⟩
      rw [hE.out] at hres
      obtain ⟨rfl, q1, q2⟩ := hres
      clear q1 q2
      have B3 := Lib.hid (B1.out.trans (hb3.mono B1.out.size))
      have B3a := Lib.hid (B3.out.alloc B3.out.size (.cells #[.slice A0 n0 k0, .slice A1 n1 k1] 26))
      have eX : (x == x) = true := by simp
      clear hb3
      go_wp2_with fail
      refine (HA _ B3a.out).out.mono ?_
      rintro e w6 ⟨rfl, hb6⟩
      have B6 := Lib.hid (B3a.out.trans (hb6.mono B3a.out.size))
      clear hb6
      go_wp2_with fail
      go_ret
      exact ⟨rfl, B6.out⟩
end Go.Proofs.YtaohniiemhahdaaGreatDoor.LPTokens
