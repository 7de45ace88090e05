/- The walk of token.Number, for the values. -/
import Derived.Test.YtcdcfhplkimecaaDoorTNumber
namespace Go.Proofs.YtcdcfhplkimecaaDoor
open Go.RowKit

theorem vnumber_zero {l : List UInt8} (h : (numberL l).1 = 0) : (numberL l).2 = 0 := by
  unfold numberL at *
  by_cases h0 : (numeralL l).1 = 0
  · rw [if_pos h0]
  · rw [if_neg h0] at h ⊢
    cases hb : behindB (l.drop (numeralL l).1)
    · rw [hb] at h; exact absurd h h0
    · rfl

set_option maxRecDepth 100000 in
theorem vnumberf_any (s : ByteArray) (w : World) (hs : s.size ≤ 9000) : Calls Tryd.prog 53 #[.string s] w fun e w' => e = .returned (.int .i64 (kindL s.data.toList)) ∧ Below w.heap.size w w' := by
  have hN := number_any s w hs
  have hk : kindL s.data.toList = if (numberL s.data.toList).1 < s.size then 0 else (numberL s.data.toList).2 := by unfold kindL; rw [len_data]
  have hz := fun h => vnumber_zero (l := s.data.toList) h
  obtain ⟨n, hn⟩ : ∃ n, (numberL s.data.toList).1 = n := ⟨_, rfl⟩
  obtain ⟨k, hkk⟩ : ∃ k, (numberL s.data.toList).2 = k := ⟨_, rfl⟩
  rw [hn, hkk] at hN hk hz
  have hT : ∃ x : ByteArray, tokS k (s.data.toList.take n) n = .tuple #[.agg #[.int .i64 k, .string x], .int .i64 n] := by
    by_cases h0 : n = 0
    · rw [hz h0, h0]; exact ⟨_, rfl⟩
    · exact ⟨_, tokS_yes h0⟩
  obtain ⟨x, hx⟩ := hT
  rw [hx] at hN
  have HN := Lib.hid hN
  clear hN hx hz hn hkk
  by_cases hlt : n < s.size
  · have hlt' : (n : Int) < (s.size : Int) := by omega
    have hr : Hid (kindL s.data.toList = 0) := Lib.hid (by rw [hk, if_pos hlt])
    clear hk
    go_enter Tryd.func53, Tryd.ntmps53
    go_wp2_with fail
    refine HN.out.mono ?_
    rintro e w1 ⟨rfl, hb⟩
    have HB := Lib.hid hb
    have hbs := hb.size
    clear hb
    go_wp2_with fail
    go_ret
    exact ⟨ret_i (by rw [hr.out]), HB.out.alloc hbs _⟩
  · have hlt' : ¬ (n : Int) < (s.size : Int) := by omega
    have hr : Hid (kindL s.data.toList = k) := Lib.hid (by rw [hk, if_neg hlt])
    clear hk
    go_enter Tryd.func53, Tryd.ntmps53
    go_wp2_with fail
    refine HN.out.mono ?_
    rintro e w1 ⟨rfl, hb⟩
    have HB := Lib.hid hb
    have hbs := hb.size
    clear hb
    go_wp2_with fail
    go_ret
    exact ⟨ret_i (by rw [hr.out]), HB.out.alloc hbs _⟩

end Go.Proofs.YtcdcfhplkimecaaDoor
