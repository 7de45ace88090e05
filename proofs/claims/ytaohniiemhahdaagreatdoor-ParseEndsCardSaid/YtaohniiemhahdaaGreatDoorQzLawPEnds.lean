/- The walk of the law ParseEnds. -/
import Derived.Test.YtaohniiemhahdaaGreatDoorQa41
namespace Go.Proofs.YtaohniiemhahdaaGreatDoor.LPEnds
open Go.RowKit

set_option maxRecDepth 100000 in
set_option maxHeartbeats 8000000 in
theorem walk (s : ByteArray) (w : World) (hz : s.size ≤ 9223372036854775807) (h3 : Laid3 w) (h5 : Laid5 w) : Calls Tryz.prog 7 #[.string s] w fun e w' => e = .returned (.bool true) ∧ Below w.heap.size w w' := by
  have HA := fun wx (hb : Below w.heap.size w wx) => Lib.hid (awake_any wx (h3.below hb) (h5.below hb))
  by_cases hs : 3000 < s.size
  · have t1 : decide ((3000 : Int) < (s.size : Int)) = true := by simp; omega
    clear h3 h5
    go_enter Tryz.func7, Tryz.ntmps7
    go_wp2_with fail
    refine (HA _ (Below.refl _ _)).out.mono ?_
    rintro e w1 ⟨rfl, hb1⟩
    have B1 := Lib.hid hb1
    clear hb1
    go_wp2_with fail
    go_ret
    exact ⟨rfl, B1.out⟩
  · have t1 : decide ((3000 : Int) < (s.size : Int)) = false := by simp; omega
    have hs' : s.size ≤ 3000 := by omega
    have HS := Lib.hid hs'
    have HR := Lib.hid (pread_any s w (by omega) h3 h5)
    have HT := fun wx (hb : Below w.heap.size w wx) => Lib.hid (read_any s wx (by omega) (h3.below hb))
    have HP := fun (t : ByteArray) wx (hb : Below w.heap.size w wx) (ht : t.size ≤ 9000) => Lib.hid (pread_any t wx ht (h3.below hb) (h5.below hb))
    have HF := fun k A c wx (hb : Below w.heap.size w wx) h hk => Lib.hid (print_front hs' (A := A) (c := c) (k := k) (w := wx) h hk (h3.below hb))
    obtain ⟨R, hR⟩ : ∃ R, wholeA docRr s.data.toList = R := ⟨_, rfl⟩
    rw [hR] at HR
    have HRR := Lib.hid hR
    clear h3 h5 hs hs' hR
    go_enter Tryz.func7, Tryz.ntmps7
    go_wp2_with fail
    refine HR.out.mono ?_
    rintro e w1 ⟨A0, n0, k0, A1, n1, k1, x, rfl, hres, hb1⟩
    have B1 := Lib.hid (hb1.alloc hb1.size (.cells #[.slice A0 n0 k0, .slice A1 n1 k1] 26))
    clear hb1
    go_wp2_with fail
    refine (HT _ B1.out).out.mono ?_
    rintro e w2 ⟨A, cap, rfl, hown, hb2⟩
    have B2 := Lib.hid (B1.out.trans (hb2.mono B1.out.size))
    have TS := Lib.hid (ts_row hown)
    clear hb2 hown
    cases R with
    | error y =>
      obtain ⟨rfl, hy, _⟩ := hres
      have t2 : (x != 0) = true := by simpa using hy
      clear hy
      go_wp2_with fail
      refine (HA _ B2.out).out.mono ?_
      rintro e w3 ⟨rfl, hb3⟩
      have B3 := Lib.hid (B2.out.trans (hb3.mono B2.out.size))
      clear hb3
      go_wp2_with fail
      go_ret
      exact ⟨rfl, B3.out⟩
    | ok D =>
      obtain ⟨rfl, _⟩ := hres
      have hw := HRR.out
      have h0 : (readS s.data.toList).2 = 0 := by
        unfold wholeA at hw
        split at hw
        · cases hw
        · rename_i h; simpa using h
      have hd : docR (tokB (readS s.data.toList).1) = .ok D := by
        rw [doc_of (ts := (readS s.data.toList).1) (by rw [← h0])] at hw
        exact hw
      obtain ⟨hlast, hne⟩ := doc_last hd
      have hlen : (readS s.data.toList).1.length ≠ 0 := fun e => hne (by rw [List.eq_nil_of_length_eq_zero e]; rfl)
      have hle := readS_len (s := s) (by have := HS.out; omega)
      obtain ⟨N, hN⟩ : ∃ N, (readS s.data.toList).1.length = N + 1 := ⟨(readS s.data.toList).1.length - 1, by omega⟩
      have hlast' : docR (tokB ((readS s.data.toList).1.take N)) = .error 2 := by
        rw [← take_tok, show N = (tokB (readS s.data.toList).1).length - 1 by rw [tokB_len, hN]; omega, ← List.dropLast_eq_take]; exact hlast
      have HL := Lib.hid hlast'
      have HN := Lib.hid hN
      have hcap := TS.out.2
      rw [hN] at hcap hle
      rw [h0, hN]
      have hZ := print_size HS.out N
      have HFR := Lib.hid (front_read (s := s) N)
      have HF := fun A c wx hb h => HF N A c wx hb h (by omega)
      obtain ⟨S, hS⟩ : ∃ S : ByteArray, (⟨(printL ((readS s.data.toList).1.take N)).toArray⟩ : ByteArray) = S := ⟨_, rfl⟩
      rw [hS] at HF HFR hZ
      have e1 : ((N + 1 : Nat) : Int) - 1 = (N : Int) := by omega
      have t3 : (((N + 1 : Nat) : Int) == 0) = false := by simp; omega
      obtain ⟨M, hM⟩ : ∃ M, N + 1 = M := ⟨_, rfl⟩
      rw [hM] at e1 t3 hcap hle ⊢
      have hNM : N ≤ M := by omega
      clear hw h0 hd hlast hne hlen hlast' hN hS
      go_wp2_with fail
      refine (HF A _ _ B2.out (by have := TS.out.1; exact this)).out.mono ?_
      rintro e w3 ⟨rfl, hb3⟩
      have B3 := Lib.hid (B2.out.trans (hb3.mono B2.out.size))
      clear hb3
      by_cases hbig : 8192 < S.size
      · have t4 : decide ((8192 : Int) < (S.size : Int)) = true := by simp; omega
        go_wp2_with fail
        refine (HA _ B3.out).out.mono ?_
        rintro e w4 ⟨rfl, hb4⟩
        have B4 := Lib.hid (B3.out.trans (hb4.mono B3.out.size))
        clear hb4
        go_wp2_with fail
        go_ret
        exact ⟨rfl, B4.out⟩
      · have t4 : decide ((8192 : Int) < (S.size : Int)) = false := by simp; omega
        have HP := fun wx hb => HP S wx hb (by omega)
        rw [doc_of (HFR.out (by omega)), HL.out] at HP
        clear hbig
        go_wp2_with fail
        refine (HP _ B3.out).out.mono ?_
        rintro e w4 ⟨A0', n0', k0', A1', n1', k1', x', rfl, ⟨rfl, _, hz'⟩, hb4⟩
        have B4 := Lib.hid (B3.out.trans (hb4.mono B3.out.size))
        clear hb4 hz'
        go_wp2_with fail
        refine (HA _ B4.out).out.mono ?_
        rintro e w5 ⟨rfl, hb5⟩
        have B5 := Lib.hid (B4.out.trans (hb5.mono B4.out.size))
        clear hb5
        go_wp2_with fail
        go_ret
        exact ⟨rfl, B5.out⟩
end Go.Proofs.YtaohniiemhahdaaGreatDoor.LPEnds
