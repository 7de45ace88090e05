/- The walk of the law LettersWalks, at every input. -/
import Derived.Test.YtkddbmdjcjldgaaDoorKept
import Derived.Test.YtkddbmdjcjldgaaDoorUnits
namespace Go.Proofs.YtkddbmdjcjldgaaDoor
open Go.RowKit

theorem walks_big (s : ByteArray) (w : World) (hbig : 3000 < s.size) (ht : TabAt w) :
    Calls Tryd.prog 6 #[.string s] w fun e w' => e = .returned (.bool true) ∧ Below w.heap.size w w' := by
  have HA := Lib.hid (awake_any w ht)
  clear ht
  go_enter Tryd.func6, Tryd.ntmps6
  go_wp2_with fail
  refine HA.out.mono ?_
  rintro e w1 ⟨rfl, hb⟩
  go_wp2_with fail
  go_ret
  exact ⟨rfl, hb⟩

/-- One byte, just if below 128. -/
theorem dec_one {l : List UInt8} (h : (dec l).2 ≠ 0) : (dec l).2 = 1 ↔ (dec l).1 < 128 := by
  rcases dec_cases l with ⟨_, h'⟩ | ⟨k, hk, _, h'⟩
  · rw [h'] at h; exact absurd rfl h
  · obtain ⟨e2, hlen, h0, hf⟩ := decK_bd hk h'
    match k, hk with
    | 0, _ =>
      unfold decK at h'
      split at h'
      · rename_i hc
        injection h' with h'
        have e1 : (dec l).1 = byt l 0 - 0 := by rw [← h']; rfl
        have hL := hc.2.1
        simp only [leads, lead, wide] at hL
        constructor
        · intro _; omega
        · intro _; omega
      · cases h'
    | k + 1, hk =>
      have : 128 ≤ least (k + 1) := by
        match k, hk with
        | 0, _ => decide
        | 1, _ => decide
        | 2, _ => decide
      unfold fair at hf
      constructor
      · intro _; omega
      · intro _; omega
theorem good_take {l : List UInt8} (h : (dec l).2 ≠ 0) : goodB (l.take (dec l).2.toNat) = true := by
  have hb := dec_bd l
  rw [← encode_dec h, goodB_iff]
  have := codes_bytes [(dec l).1] [] (by simp [okB, hb.2.2.2.2.2]; omega)
  simp [bytesOf, codes_nil] at this
  rw [this]; rfl

set_option maxRecDepth 100000 in
set_option maxHeartbeats 1000000 in
theorem walks_small (s : ByteArray) (w : World) (h1 : s.size ≤ 3000) (ht : TabAt w) :
    Calls Tryd.prog 6 #[.string s] w fun e w' => e = .returned (.bool true) ∧ Below w.heap.size w w' := by
  have HL : Hid (s.data.toList.length = s.size) := Lib.hid Array.length_toList
  have hK0 := Lib.hid (Kept.start ht)
  clear ht
  go_enter Tryd.func6, Tryd.ntmps6
  go_wp2
  go_loopg [3] s.size (fun g i wx => ∃ k : Nat, k + g = s.size ∧ i = .int .i64 k ∧ Kept w wx ∧ Aside (goodB (s.data.toList.drop k) = goodB s.data.toList))
  case atStart => exact ⟨0, by omega, rfl, hK0.out, Aside.intro rfl⟩
  case round =>
    obtain ⟨k, hk, rfl, K, H⟩ := hrel
    cases gk with
    | zero =>
      obtain rfl : k = s.size := by omega
      have h2 : Hid (goodB s.data.toList = true) := Lib.hid (by rw [← H.out, List.drop_eq_nil_of_le (by rw [HL.out]; omega)]; rfl)
      clear H
      go_wp2_with fail
      refine (good_k K s (by omega)).mono ?_
      rintro e w1 ⟨rfl, K1⟩
      rw [h2.out]
      go_wp2_with fail
      refine (awake_k K1).mono ?_
      rintro e w2 ⟨rfl, K2⟩
      go_wp2_with fail
      go_ret
      exact ⟨rfl, K2.2⟩
    | succ g =>
      have hlt : k < s.size := by omega
      have hlt' : (k : Int) < (s.size : Int) := by omega
      have hne : Hid (s.data.toList.drop k ≠ []) := Lib.hid (fun e => by have := congrArg List.length e; rw [List.length_drop, HL.out] at this; simp at this; omega)
      have hdl : Hid ((s.data.toList.drop k).length = s.size - k) := Lib.hid (by rw [List.length_drop, HL.out])
      have hbd := dec_bd (s.data.toList.drop k)
      have hcode := (code_in s k wr (by omega) hlt K.1).mono (fun _ _ ⟨he, hb⟩ => (⟨he, K.next hb⟩ : _ ∧ Kept w _))
      have hst := Lib.hid (eachP_step (p := fun _ => true) (l := s.data.toList.drop k) hne.out)
      have hbad := Lib.hid (eachP_bad (p := fun _ => true) (l := s.data.toList.drop k) hne.out)
      have hone := Lib.hid (dec_one (l := s.data.toList.drop k))
      have htk := Lib.hid (good_take (l := s.data.toList.drop k))
      generalize dec (s.data.toList.drop k) = d at *
      obtain ⟨c, n⟩ := d
      simp only at hbd hcode hst hbad hone htk
      obtain ⟨b1, b2, b3, b4, b5, b6⟩ := hbd
      rw [hdl.out] at b3
      have HC := Lib.hid hcode
      clear hcode
      have b6' : ¬ (55296 ≤ c ∧ c ≤ 57343) := by simpa [halfB] using b6
      clear b6
      by_cases hn : n = 0
      · have hfin : Hid (goodB s.data.toList = false) := Lib.hid (by rw [← H.out]; exact hbad.out hn)
        have z0 : (n == 0) = true := by simp [hn]
        have e0 : ((k : Int) == (s.size : Int)) = false := by simp; omega
        clear H hst hbad hone htk hn
        go_wp2_with fail
        refine HC.out.mono ?_
        rintro e w1 ⟨rfl, K1⟩
        go_wp2_with fail
        refine (good_k K1 s (by omega)).mono ?_
        rintro e w2 ⟨rfl, K2⟩
        rw [hfin.out]
        go_wp2_with fail
        refine (awake_k K2).mono ?_
        rintro e w3 ⟨rfl, K3⟩
        go_wp2_with fail
        go_ret
        exact ⟨rfl, K3.2⟩
      · have z0 : (n == 0) = false := by simp [hn]
        have z1 : decide (n < 1) = false := by simp; omega
        have z2 : decide (4 < n) = false := by simp; omega
        have z3 : decide ((s.size : Int) - (k : Int) < n) = false := by simp; omega
        have z4 : decide (c < 0) = false := by simp; omega
        have z5 : decide (1114111 < c) = false := by simp; omega
        have z6 : decide (55296 ≤ c) = false ∨ (decide (55296 ≤ c) = true ∧ decide (c ≤ 57343) = false) := by
          by_cases h : 55296 ≤ c
          · exact .inr ⟨by simpa using h, by simp; omega⟩
          · exact .inl (by simpa using h)
        have z7 : ((n == 1) = true ∧ decide (c < 128) = true) ∨ ((n == 1) = false ∧ decide (c < 128) = false) := by
          have h := hone.out hn
          by_cases h1 : n = 1
          · exact .inl ⟨by simp [h1], by simpa using h.1 h1⟩
          · have hc : ¬ c < 128 := fun x => h1 (h.2 x)
            exact .inr ⟨by simp [h1], decide_eq_false hc⟩
        have hfin : Hid (goodB ((s.data.toList.drop k).drop n.toNat) = goodB s.data.toList) := Lib.hid (by rw [← H.out]; show _ = eachP _ _; rw [hst.out hn]; rfl)
        have htk' := Lib.hid (htk.out hn)
        have hn1 : 1 ≤ n := by omega
        have b3' : n ≤ (s.size : Int) - (k : Int) := by omega
        have hS1 : Hid ((s.extract (k : Int).toNat ((k : Int) + n).toNat).data.toList = (s.data.toList.drop k).take n.toNat) := Lib.hid (by
          rw [ByteArray.data_extract, Array.toList_extract, List.extract]
          rw [show ((k : Int) + n).toNat - (k : Int).toNat = n.toNat from by omega]; rfl)
        have hS2 : (s.extract (k : Int).toNat ((k : Int) + n).toNat).size ≤ 9000 := by rw [ByteArray.size_extract]; omega
        have hsl := fun w => run_slice_string (P := Tryd.prog) w 9 s .i64 .i64 (k : Int) ((k : Int) + n) Tryd.underlying9 (by omega) (by omega) (by omega)
        generalize s.extract (k : Int).toNat ((k : Int) + n).toNat = S at *
        have hS : Hid (goodB S.data.toList = true) := Lib.hid (by rw [hS1.out]; exact htk'.out)
        clear H hst hbad hone htk hn hS1 htk'
        rcases z6 with z6 | ⟨z6, z6'⟩ <;> rcases z7 with ⟨z7, z7'⟩ | ⟨z7, z7'⟩
        all_goals
          go_wp2_with fail
          refine HC.out.mono ?_
          rintro e w1 ⟨rfl, K1⟩
          go_wp2_with fail
          refine (good_k K1 S (by omega)).mono ?_
          rintro e w2 ⟨rfl, K2⟩
          rw [hS.out]
          go_wp2_with fail
          obtain ⟨m, rfl⟩ := Int.eq_ofNat_of_zero_le b1
          go_roundg (s.size - (k + m))
          case measure => omega
          case rel => exact ⟨k + m, by omega, by go_num, K2, Aside.intro (by rw [← hfin.out, List.drop_drop]; rfl)⟩
namespace LWalks
theorem walk (s : ByteArray) (w : World) (ht : TabAt w) :
    Calls Tryd.prog 6 #[.string s] w fun e w' => e = .returned (.bool true) ∧ Below w.heap.size w w' := by
  by_cases h : 3000 < s.size
  · exact walks_big s w h ht
  · exact walks_small s w (by omega) ht
end LWalks
end Go.Proofs.YtkddbmdjcjldgaaDoor
