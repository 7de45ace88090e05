/- The walk of the law WrapBack. -/
import Derived.Test.YtfinboplkjijhaaLawWItems
namespace Go.Proofs.Ytfinboplkjijhaa
open Go.RowKit

set_option maxRecDepth 100000 in
set_option maxHeartbeats 2000000 in
theorem back_big (n : ByteArray) (l m : Int) (s : ByteArray) (w : World) (h : 2000 < n.size ∨ 2000 < s.size) : Calls Try.prog 5 #[.agg #[.string n, .int .i64 l, .int .i64 m], .string s] w fun e w' => e = .returned (.bool true) ∧ Below w.heap.size w w' := by
  have HA := fun w => Lib.hid (awake_any w)
  by_cases h1 : 2000 < n.size
  · have t1 : decide ((2000 : Int) < (n.size : Int)) = true := by simp; omega
    go_enter Try.func5, Try.ntmps5
    go_wp2_with fail
    refine (HA _).out.mono ?_
    rintro e w1 ⟨rfl, hb1⟩
    go_wp2_with fail
    go_ret
    exact ⟨rfl, nextn hb1⟩
  · have t1 : decide ((2000 : Int) < (n.size : Int)) = false := by simp; omega
    have t2 : decide ((2000 : Int) < (s.size : Int)) = true := by simp; omega
    clear h h1
    go_enter Try.func5, Try.ntmps5
    go_wp2_with fail
    refine (HA _).out.mono ?_
    rintro e w1 ⟨rfl, hb1⟩
    go_wp2_with fail
    go_ret
    exact ⟨rfl, nextn hb1⟩
theorem read_nil : readV (rdB 5 0 0 []) = noT := by
  refine readV_no ?_
  rintro ⟨n, l, m, hn, _, _, he⟩
  have := congrArg List.length he
  rw [printW, prD_eq] at this
  cases n with
  | nil => cases hn
  | cons b t => simp at this
theorem print_len (n : List UInt8) (l m : Nat) : (printW n l m).length ≤ n.length + 3 * l + 1 := by
  rw [printW, prD_eq]
  have := tail_len m l 0
  simp only [List.length_append, List.length_replicate]
  omega
set_option maxRecDepth 100000 in
set_option maxHeartbeats 4000000 in
theorem back_no_no (n s : ByteArray) (w : World) (hn : n.size ≤ 2000) (hs : s.size ≤ 2000) (l m : Int) (hr : rightT n.data.toList l m = false) (hT : ¬ ∃ n l m, IsT s.data.toList n l m) : Calls Try.prog 5 #[.agg #[.string n, .int .i64 l, .int .i64 m], .string s] w fun e w' => e = .returned (.bool true) ∧ Below w.heap.size w w' := by
  have HA := fun w => Lib.hid (awake_any w)
  have t1 : decide ((2000 : Int) < (n.size : Int)) = false := by simp; omega
  have t2 : decide ((2000 : Int) < (s.size : Int)) = false := by simp; omega
  have HP := fun w => Lib.hid (print_no n l m w (by omega) hr)
  have HQ := fun w => Lib.hid (read_any ⟨#[]⟩ w (by show 0 ≤ 9000; omega))
  rw [show readV (rdB 5 0 0 (⟨#[]⟩ : ByteArray).data.toList) = .tuple #[.agg #[.string ⟨#[]⟩, .int .i64 0, .int .i64 0], .bool false] from read_nil] at HQ
  have HR := fun w => Lib.hid (right_any n l m w (by omega))
  rw [hr] at HR
  clear hr
  have HS := fun w => Lib.hid (read_any s w (by omega))
  rw [readV_no hT, noT] at HS
  clear hT
  clear hn hs
  go_enter Try.func5, Try.ntmps5
  go_wp2_with fail
  refine (HP _).out.mono ?_
  rintro e w1 ⟨rfl, hb1⟩
  have Ka1 := Lib.hid (lastn hb1)
  have zz1 := size_lt hb1
  have KB1 := Lib.hid (nextn hb1)
  obtain ⟨a0, a1, a2, af0, af1, af2⟩ := ty_cells Ka1.out
  have lta1 := lt_of_heap Ka1.out
  have nwa : ¬ w.heap.size = w1.heap.size := by omega
  have nva : ¬ w1.heap.size = w.heap.size := by omega
  clear hb1 HP
  go_wp2_with fail
  refine (HQ _).out.mono ?_
  rintro e w2 ⟨rfl, hb2⟩
  have Ka2 := Lib.hid (blk Ka1.out hb2)
  have zz2 := hb2.size
  have KB2 := Lib.hid (chain KB1.out hb2)
  obtain ⟨a0, a1, a2, af0, af1, af2⟩ := ty_cells Ka2.out
  have lta2 := lt_of_heap Ka2.out
  have nwa : ¬ w.heap.size = w2.heap.size := by omega
  have nva : ¬ w2.heap.size = w.heap.size := by omega
  clear hb2 HQ
  go_wp2_with fail
  refine (HR _).out.mono ?_
  rintro e w3 ⟨rfl, hb3⟩
  have Ka3 := Lib.hid (blkn Ka2.out hb3)
  have Kb3 := Lib.hid (lastn hb3)
  have zz3 := size_lt hb3
  have KB3 := Lib.hid (chain KB2.out (nextn hb3))
  obtain ⟨a0, a1, a2, af0, af1, af2⟩ := ty_cells Ka3.out
  obtain ⟨b0, b1, b2, bf0, bf1, bf2⟩ := ty_cells Kb3.out
  have lta3 := lt_of_heap Ka3.out
  have ltb3 := lt_of_heap Kb3.out
  have nwa : ¬ w.heap.size = w3.heap.size := by omega
  have nva : ¬ w3.heap.size = w.heap.size := by omega
  have neab : ¬ w.heap.size = w2.heap.size := by omega
  have neba : ¬ w2.heap.size = w.heap.size := by omega
  have nwb : ¬ w2.heap.size = w3.heap.size := by omega
  have nvb : ¬ w3.heap.size = w2.heap.size := by omega
  clear hb3 HR
  go_wp2_with fail
  refine (HS _).out.mono ?_
  rintro e w4 ⟨rfl, hb4⟩
  have Ka4 := Lib.hid (blk Ka3.out hb4)
  have Kb4 := Lib.hid (blk Kb3.out hb4)
  have zz4 := hb4.size
  have KB4 := Lib.hid (chain KB3.out hb4)
  obtain ⟨a0, a1, a2, af0, af1, af2⟩ := ty_cells Ka4.out
  obtain ⟨b0, b1, b2, bf0, bf1, bf2⟩ := ty_cells Kb4.out
  have lta4 := lt_of_heap Ka4.out
  have ltb4 := lt_of_heap Kb4.out
  have nwa : ¬ w.heap.size = w4.heap.size := by omega
  have nva : ¬ w4.heap.size = w.heap.size := by omega
  have nwb : ¬ w2.heap.size = w4.heap.size := by omega
  have nvb : ¬ w4.heap.size = w2.heap.size := by omega
  clear hb4 HS
  go_wp2_with fail
  refine (HA _).out.mono ?_
  rintro e w5 ⟨rfl, hb5⟩
  have zz5 : w4.heap.size ≤ w5.heap.size := by have := hb5.size; simpa using this
  have hc5 := sto hb5
  have Ka5 := Lib.hid ((hc5.block (w.heap.size) lta4).trans (set_other (set_other (set_other Ka4.out neba) neba) neba))
  have Kb5 := Lib.hid ((hc5.block (w2.heap.size) ltb4).trans (ty_set Kb4.out))
  have KB5 := Lib.hid ((set3 KB4.out (by omega : w.heap.size ≤ w2.heap.size) _ _ _).trans (hc5.mono (by omega : w.heap.size ≤ w4.heap.size)))
  obtain ⟨a0, a1, a2, af0, af1, af2⟩ := ty_cells Ka5.out
  obtain ⟨b0, b1, b2, bf0, bf1, bf2⟩ := ty_cells Kb5.out
  have lta5 := lt_of_heap Ka5.out
  have ltb5 := lt_of_heap Kb5.out
  have nwa : ¬ w.heap.size = w5.heap.size := by omega
  have nva : ¬ w5.heap.size = w.heap.size := by omega
  have nwb : ¬ w2.heap.size = w5.heap.size := by omega
  have nvb : ¬ w5.heap.size = w2.heap.size := by omega
  clear hb5 hc5
  go_wp2_with fail
  go_ret
  exact ⟨rfl, KB5.out⟩
set_option maxRecDepth 100000 in
set_option maxHeartbeats 4000000 in
theorem back_no_yes (n s : ByteArray) (w : World) (hn : n.size ≤ 2000) (hs : s.size ≤ 2000) (l m : Int) (hr : rightT n.data.toList l m = false) (u : ByteArray) (a b : Nat) (hT : IsT s.data.toList u.data.toList a b) : Calls Try.prog 5 #[.agg #[.string n, .int .i64 l, .int .i64 m], .string s] w fun e w' => e = .returned (.bool true) ∧ Below w.heap.size w w' := by
  have HA := fun w => Lib.hid (awake_any w)
  have t1 : decide ((2000 : Int) < (n.size : Int)) = false := by simp; omega
  have t2 : decide ((2000 : Int) < (s.size : Int)) = false := by simp; omega
  have HP := fun w => Lib.hid (print_no n l m w (by omega) hr)
  have HQ := fun w => Lib.hid (read_any ⟨#[]⟩ w (by show 0 ≤ 9000; omega))
  rw [show readV (rdB 5 0 0 (⟨#[]⟩ : ByteArray).data.toList) = .tuple #[.agg #[.string ⟨#[]⟩, .int .i64 0, .int .i64 0], .bool false] from read_nil] at HQ
  have HR := fun w => Lib.hid (right_any n l m w (by omega))
  rw [hr] at HR
  clear hr
  have hus : u.size ≤ 9000 := by
    have := congrArg List.length hT.2.2.2
    rw [printW, prD_eq] at this
    simp only [List.length_append, List.length_replicate] at this
    rw [len_data, len_data] at this
    omega
  have HS := fun w => Lib.hid (read_any s w (by omega))
  rw [readV_yes hT, mk_of rfl, yesT] at HS
  have HU := fun w => Lib.hid (print_yes u a b w hus hT.1 hT.2.1 hT.2.2.1)
  rw [← hT.2.2.2, mk_of rfl] at HU
  clear hT hus
  clear hn hs
  go_enter Try.func5, Try.ntmps5
  go_wp2_with fail
  refine (HP _).out.mono ?_
  rintro e w1 ⟨rfl, hb1⟩
  have Ka1 := Lib.hid (lastn hb1)
  have zz1 := size_lt hb1
  have KB1 := Lib.hid (nextn hb1)
  obtain ⟨a0, a1, a2, af0, af1, af2⟩ := ty_cells Ka1.out
  have lta1 := lt_of_heap Ka1.out
  have nwa : ¬ w.heap.size = w1.heap.size := by omega
  have nva : ¬ w1.heap.size = w.heap.size := by omega
  clear hb1 HP
  go_wp2_with fail
  refine (HQ _).out.mono ?_
  rintro e w2 ⟨rfl, hb2⟩
  have Ka2 := Lib.hid (blk Ka1.out hb2)
  have zz2 := hb2.size
  have KB2 := Lib.hid (chain KB1.out hb2)
  obtain ⟨a0, a1, a2, af0, af1, af2⟩ := ty_cells Ka2.out
  have lta2 := lt_of_heap Ka2.out
  have nwa : ¬ w.heap.size = w2.heap.size := by omega
  have nva : ¬ w2.heap.size = w.heap.size := by omega
  clear hb2 HQ
  go_wp2_with fail
  refine (HR _).out.mono ?_
  rintro e w3 ⟨rfl, hb3⟩
  have Ka3 := Lib.hid (blkn Ka2.out hb3)
  have Kb3 := Lib.hid (lastn hb3)
  have zz3 := size_lt hb3
  have KB3 := Lib.hid (chain KB2.out (nextn hb3))
  obtain ⟨a0, a1, a2, af0, af1, af2⟩ := ty_cells Ka3.out
  obtain ⟨b0, b1, b2, bf0, bf1, bf2⟩ := ty_cells Kb3.out
  have lta3 := lt_of_heap Ka3.out
  have ltb3 := lt_of_heap Kb3.out
  have nwa : ¬ w.heap.size = w3.heap.size := by omega
  have nva : ¬ w3.heap.size = w.heap.size := by omega
  have neab : ¬ w.heap.size = w2.heap.size := by omega
  have neba : ¬ w2.heap.size = w.heap.size := by omega
  have nwb : ¬ w2.heap.size = w3.heap.size := by omega
  have nvb : ¬ w3.heap.size = w2.heap.size := by omega
  clear hb3 HR
  go_wp2_with fail
  refine (HS _).out.mono ?_
  rintro e w4 ⟨rfl, hb4⟩
  have Ka4 := Lib.hid (blk Ka3.out hb4)
  have Kb4 := Lib.hid (blk Kb3.out hb4)
  have zz4 := hb4.size
  have KB4 := Lib.hid (chain KB3.out hb4)
  obtain ⟨a0, a1, a2, af0, af1, af2⟩ := ty_cells Ka4.out
  obtain ⟨b0, b1, b2, bf0, bf1, bf2⟩ := ty_cells Kb4.out
  have lta4 := lt_of_heap Ka4.out
  have ltb4 := lt_of_heap Kb4.out
  have nwa : ¬ w.heap.size = w4.heap.size := by omega
  have nva : ¬ w4.heap.size = w.heap.size := by omega
  have nwb : ¬ w2.heap.size = w4.heap.size := by omega
  have nvb : ¬ w4.heap.size = w2.heap.size := by omega
  clear hb4 HS
  go_wp2_with fail
  refine (HU _).out.mono ?_
  rintro e w5 ⟨rfl, hb5⟩
  have zz5 : w4.heap.size ≤ w5.heap.size := by have := hb5.size; simpa using this
  have hc5 := sto hb5
  have Ka5 := Lib.hid ((hc5.block (w.heap.size) lta4).trans (set_other (set_other (set_other Ka4.out neba) neba) neba))
  have Kb5 := Lib.hid ((hc5.block (w2.heap.size) ltb4).trans (ty_set Kb4.out))
  have KB5 := Lib.hid ((set3 KB4.out (by omega : w.heap.size ≤ w2.heap.size) _ _ _).trans (hc5.mono (by omega : w.heap.size ≤ w4.heap.size)))
  obtain ⟨a0, a1, a2, af0, af1, af2⟩ := ty_cells Ka5.out
  obtain ⟨b0, b1, b2, bf0, bf1, bf2⟩ := ty_cells Kb5.out
  have lta5 := lt_of_heap Ka5.out
  have ltb5 := lt_of_heap Kb5.out
  have nwa : ¬ w.heap.size = w5.heap.size := by omega
  have nva : ¬ w5.heap.size = w.heap.size := by omega
  have nwb : ¬ w2.heap.size = w5.heap.size := by omega
  have nvb : ¬ w5.heap.size = w2.heap.size := by omega
  clear hb5 hc5 HU
  go_wp2_with fail
  refine (HA _).out.mono ?_
  rintro e w6 ⟨rfl, hb6⟩
  have Ka6 := Lib.hid (blk Ka5.out hb6)
  have Kb6 := Lib.hid (blk Kb5.out hb6)
  have zz6 := hb6.size
  have KB6 := Lib.hid (chain KB5.out hb6)
  obtain ⟨a0, a1, a2, af0, af1, af2⟩ := ty_cells Ka6.out
  obtain ⟨b0, b1, b2, bf0, bf1, bf2⟩ := ty_cells Kb6.out
  have lta6 := lt_of_heap Ka6.out
  have ltb6 := lt_of_heap Kb6.out
  have nwa : ¬ w.heap.size = w6.heap.size := by omega
  have nva : ¬ w6.heap.size = w.heap.size := by omega
  have nwb : ¬ w2.heap.size = w6.heap.size := by omega
  have nvb : ¬ w6.heap.size = w2.heap.size := by omega
  clear hb6
  go_wp2_with fail
  go_ret
  exact ⟨rfl, KB6.out⟩
set_option maxRecDepth 100000 in
set_option maxHeartbeats 4000000 in
theorem back_yes_no (n s : ByteArray) (w : World) (hn : n.size ≤ 2000) (hs : s.size ≤ 2000) (k q : Nat) (hN : nameB n.data.toList = true) (hk : k ≤ 4) (hq : q < 2 ^ (k + 1)) (hT : ¬ ∃ n l m, IsT s.data.toList n l m) : Calls Try.prog 5 #[.agg #[.string n, .int .i64 k, .int .i64 q], .string s] w fun e w' => e = .returned (.bool true) ∧ Below w.heap.size w w' := by
  have HA := fun w => Lib.hid (awake_any w)
  have t1 : decide ((2000 : Int) < (n.size : Int)) = false := by simp; omega
  have t2 : decide ((2000 : Int) < (s.size : Int)) = false := by simp; omega
  have HP := fun w => Lib.hid (print_yes n k q w (by omega) hN hk hq)
  obtain ⟨P, hP⟩ : ∃ P : ByteArray, (⟨(printW n.data.toList k q).toArray⟩ : ByteArray) = P := ⟨_, rfl⟩
  rw [hP] at HP
  have hPs : P.size ≤ 9000 := by
    have := print_len n.data.toList k q
    rw [← hP, size_mk]
    rw [len_data] at this
    omega
  have HQ := fun w => Lib.hid (read_any P w hPs)
  have hT : IsT P.data.toList n.data.toList k q := ⟨hN, hk, hq, by rw [← hP]⟩
  rw [readV_yes hT, mk_of rfl, yesT] at HQ
  have HR := fun w => Lib.hid (right_any n k q w (by omega))
  rw [right_nat hN hk hq] at HR
  clear hP hPs hT hN hk hq
  have HS := fun w => Lib.hid (read_any s w (by omega))
  rw [readV_no hT, noT] at HS
  clear hT
  clear hn hs
  go_enter Try.func5, Try.ntmps5
  go_wp2_with fail
  refine (HP _).out.mono ?_
  rintro e w1 ⟨rfl, hb1⟩
  have Ka1 := Lib.hid (lastn hb1)
  have zz1 := size_lt hb1
  have KB1 := Lib.hid (nextn hb1)
  obtain ⟨a0, a1, a2, af0, af1, af2⟩ := ty_cells Ka1.out
  have lta1 := lt_of_heap Ka1.out
  have nwa : ¬ w.heap.size = w1.heap.size := by omega
  have nva : ¬ w1.heap.size = w.heap.size := by omega
  clear hb1 HP
  go_wp2_with fail
  refine (HQ _).out.mono ?_
  rintro e w2 ⟨rfl, hb2⟩
  have Ka2 := Lib.hid (blk Ka1.out hb2)
  have zz2 := hb2.size
  have KB2 := Lib.hid (chain KB1.out hb2)
  obtain ⟨a0, a1, a2, af0, af1, af2⟩ := ty_cells Ka2.out
  have lta2 := lt_of_heap Ka2.out
  have nwa : ¬ w.heap.size = w2.heap.size := by omega
  have nva : ¬ w2.heap.size = w.heap.size := by omega
  clear hb2 HQ
  go_wp2_with fail
  refine (HR _).out.mono ?_
  rintro e w3 ⟨rfl, hb3⟩
  have Ka3 := Lib.hid (blkn Ka2.out hb3)
  have Kb3 := Lib.hid (lastn hb3)
  have zz3 := size_lt hb3
  have KB3 := Lib.hid (chain KB2.out (nextn hb3))
  obtain ⟨a0, a1, a2, af0, af1, af2⟩ := ty_cells Ka3.out
  obtain ⟨b0, b1, b2, bf0, bf1, bf2⟩ := ty_cells Kb3.out
  have lta3 := lt_of_heap Ka3.out
  have ltb3 := lt_of_heap Kb3.out
  have nwa : ¬ w.heap.size = w3.heap.size := by omega
  have nva : ¬ w3.heap.size = w.heap.size := by omega
  have neab : ¬ w.heap.size = w2.heap.size := by omega
  have neba : ¬ w2.heap.size = w.heap.size := by omega
  have nwb : ¬ w2.heap.size = w3.heap.size := by omega
  have nvb : ¬ w3.heap.size = w2.heap.size := by omega
  clear hb3 HR
  go_wp2_with fail
  refine (HS _).out.mono ?_
  rintro e w4 ⟨rfl, hb4⟩
  have Ka4 := Lib.hid (blk Ka3.out hb4)
  have Kb4 := Lib.hid (blk Kb3.out hb4)
  have zz4 := hb4.size
  have KB4 := Lib.hid (chain KB3.out hb4)
  obtain ⟨a0, a1, a2, af0, af1, af2⟩ := ty_cells Ka4.out
  obtain ⟨b0, b1, b2, bf0, bf1, bf2⟩ := ty_cells Kb4.out
  have lta4 := lt_of_heap Ka4.out
  have ltb4 := lt_of_heap Kb4.out
  have nwa : ¬ w.heap.size = w4.heap.size := by omega
  have nva : ¬ w4.heap.size = w.heap.size := by omega
  have nwb : ¬ w2.heap.size = w4.heap.size := by omega
  have nvb : ¬ w4.heap.size = w2.heap.size := by omega
  clear hb4 HS
  go_wp2_with fail
  refine (HA _).out.mono ?_
  rintro e w5 ⟨rfl, hb5⟩
  have zz5 : w4.heap.size ≤ w5.heap.size := by have := hb5.size; simpa using this
  have hc5 := sto hb5
  have Ka5 := Lib.hid ((hc5.block (w.heap.size) lta4).trans (set_other (set_other (set_other Ka4.out neba) neba) neba))
  have Kb5 := Lib.hid ((hc5.block (w2.heap.size) ltb4).trans (ty_set Kb4.out))
  have KB5 := Lib.hid ((set3 KB4.out (by omega : w.heap.size ≤ w2.heap.size) _ _ _).trans (hc5.mono (by omega : w.heap.size ≤ w4.heap.size)))
  obtain ⟨a0, a1, a2, af0, af1, af2⟩ := ty_cells Ka5.out
  obtain ⟨b0, b1, b2, bf0, bf1, bf2⟩ := ty_cells Kb5.out
  have lta5 := lt_of_heap Ka5.out
  have ltb5 := lt_of_heap Kb5.out
  have nwa : ¬ w.heap.size = w5.heap.size := by omega
  have nva : ¬ w5.heap.size = w.heap.size := by omega
  have nwb : ¬ w2.heap.size = w5.heap.size := by omega
  have nvb : ¬ w5.heap.size = w2.heap.size := by omega
  clear hb5 hc5
  go_wp2_with fail
  go_ret
  exact ⟨rfl, KB5.out⟩
set_option maxRecDepth 100000 in
set_option maxHeartbeats 4000000 in
theorem back_yes_yes (n s : ByteArray) (w : World) (hn : n.size ≤ 2000) (hs : s.size ≤ 2000) (k q : Nat) (hN : nameB n.data.toList = true) (hk : k ≤ 4) (hq : q < 2 ^ (k + 1)) (u : ByteArray) (a b : Nat) (hT : IsT s.data.toList u.data.toList a b) : Calls Try.prog 5 #[.agg #[.string n, .int .i64 k, .int .i64 q], .string s] w fun e w' => e = .returned (.bool true) ∧ Below w.heap.size w w' := by
  have HA := fun w => Lib.hid (awake_any w)
  have t1 : decide ((2000 : Int) < (n.size : Int)) = false := by simp; omega
  have t2 : decide ((2000 : Int) < (s.size : Int)) = false := by simp; omega
  have HP := fun w => Lib.hid (print_yes n k q w (by omega) hN hk hq)
  obtain ⟨P, hP⟩ : ∃ P : ByteArray, (⟨(printW n.data.toList k q).toArray⟩ : ByteArray) = P := ⟨_, rfl⟩
  rw [hP] at HP
  have hPs : P.size ≤ 9000 := by
    have := print_len n.data.toList k q
    rw [← hP, size_mk]
    rw [len_data] at this
    omega
  have HQ := fun w => Lib.hid (read_any P w hPs)
  have hT : IsT P.data.toList n.data.toList k q := ⟨hN, hk, hq, by rw [← hP]⟩
  rw [readV_yes hT, mk_of rfl, yesT] at HQ
  have HR := fun w => Lib.hid (right_any n k q w (by omega))
  rw [right_nat hN hk hq] at HR
  clear hP hPs hT hN hk hq
  have hus : u.size ≤ 9000 := by
    have := congrArg List.length hT.2.2.2
    rw [printW, prD_eq] at this
    simp only [List.length_append, List.length_replicate] at this
    rw [len_data, len_data] at this
    omega
  have HS := fun w => Lib.hid (read_any s w (by omega))
  rw [readV_yes hT, mk_of rfl, yesT] at HS
  have HU := fun w => Lib.hid (print_yes u a b w hus hT.1 hT.2.1 hT.2.2.1)
  rw [← hT.2.2.2, mk_of rfl] at HU
  clear hT hus
  clear hn hs
  go_enter Try.func5, Try.ntmps5
  go_wp2_with fail
  refine (HP _).out.mono ?_
  rintro e w1 ⟨rfl, hb1⟩
  have Ka1 := Lib.hid (lastn hb1)
  have zz1 := size_lt hb1
  have KB1 := Lib.hid (nextn hb1)
  obtain ⟨a0, a1, a2, af0, af1, af2⟩ := ty_cells Ka1.out
  have lta1 := lt_of_heap Ka1.out
  have nwa : ¬ w.heap.size = w1.heap.size := by omega
  have nva : ¬ w1.heap.size = w.heap.size := by omega
  clear hb1 HP
  go_wp2_with fail
  refine (HQ _).out.mono ?_
  rintro e w2 ⟨rfl, hb2⟩
  have Ka2 := Lib.hid (blk Ka1.out hb2)
  have zz2 := hb2.size
  have KB2 := Lib.hid (chain KB1.out hb2)
  obtain ⟨a0, a1, a2, af0, af1, af2⟩ := ty_cells Ka2.out
  have lta2 := lt_of_heap Ka2.out
  have nwa : ¬ w.heap.size = w2.heap.size := by omega
  have nva : ¬ w2.heap.size = w.heap.size := by omega
  clear hb2 HQ
  go_wp2_with fail
  refine (HR _).out.mono ?_
  rintro e w3 ⟨rfl, hb3⟩
  have Ka3 := Lib.hid (blkn Ka2.out hb3)
  have Kb3 := Lib.hid (lastn hb3)
  have zz3 := size_lt hb3
  have KB3 := Lib.hid (chain KB2.out (nextn hb3))
  obtain ⟨a0, a1, a2, af0, af1, af2⟩ := ty_cells Ka3.out
  obtain ⟨b0, b1, b2, bf0, bf1, bf2⟩ := ty_cells Kb3.out
  have lta3 := lt_of_heap Ka3.out
  have ltb3 := lt_of_heap Kb3.out
  have nwa : ¬ w.heap.size = w3.heap.size := by omega
  have nva : ¬ w3.heap.size = w.heap.size := by omega
  have neab : ¬ w.heap.size = w2.heap.size := by omega
  have neba : ¬ w2.heap.size = w.heap.size := by omega
  have nwb : ¬ w2.heap.size = w3.heap.size := by omega
  have nvb : ¬ w3.heap.size = w2.heap.size := by omega
  clear hb3 HR
  go_wp2_with fail
  refine (HS _).out.mono ?_
  rintro e w4 ⟨rfl, hb4⟩
  have Ka4 := Lib.hid (blk Ka3.out hb4)
  have Kb4 := Lib.hid (blk Kb3.out hb4)
  have zz4 := hb4.size
  have KB4 := Lib.hid (chain KB3.out hb4)
  obtain ⟨a0, a1, a2, af0, af1, af2⟩ := ty_cells Ka4.out
  obtain ⟨b0, b1, b2, bf0, bf1, bf2⟩ := ty_cells Kb4.out
  have lta4 := lt_of_heap Ka4.out
  have ltb4 := lt_of_heap Kb4.out
  have nwa : ¬ w.heap.size = w4.heap.size := by omega
  have nva : ¬ w4.heap.size = w.heap.size := by omega
  have nwb : ¬ w2.heap.size = w4.heap.size := by omega
  have nvb : ¬ w4.heap.size = w2.heap.size := by omega
  clear hb4 HS
  go_wp2_with fail
  refine (HU _).out.mono ?_
  rintro e w5 ⟨rfl, hb5⟩
  have zz5 : w4.heap.size ≤ w5.heap.size := by have := hb5.size; simpa using this
  have hc5 := sto hb5
  have Ka5 := Lib.hid ((hc5.block (w.heap.size) lta4).trans (set_other (set_other (set_other Ka4.out neba) neba) neba))
  have Kb5 := Lib.hid ((hc5.block (w2.heap.size) ltb4).trans (ty_set Kb4.out))
  have KB5 := Lib.hid ((set3 KB4.out (by omega : w.heap.size ≤ w2.heap.size) _ _ _).trans (hc5.mono (by omega : w.heap.size ≤ w4.heap.size)))
  obtain ⟨a0, a1, a2, af0, af1, af2⟩ := ty_cells Ka5.out
  obtain ⟨b0, b1, b2, bf0, bf1, bf2⟩ := ty_cells Kb5.out
  have lta5 := lt_of_heap Ka5.out
  have ltb5 := lt_of_heap Kb5.out
  have nwa : ¬ w.heap.size = w5.heap.size := by omega
  have nva : ¬ w5.heap.size = w.heap.size := by omega
  have nwb : ¬ w2.heap.size = w5.heap.size := by omega
  have nvb : ¬ w5.heap.size = w2.heap.size := by omega
  clear hb5 hc5 HU
  go_wp2_with fail
  refine (HA _).out.mono ?_
  rintro e w6 ⟨rfl, hb6⟩
  have Ka6 := Lib.hid (blk Ka5.out hb6)
  have Kb6 := Lib.hid (blk Kb5.out hb6)
  have zz6 := hb6.size
  have KB6 := Lib.hid (chain KB5.out hb6)
  obtain ⟨a0, a1, a2, af0, af1, af2⟩ := ty_cells Ka6.out
  obtain ⟨b0, b1, b2, bf0, bf1, bf2⟩ := ty_cells Kb6.out
  have lta6 := lt_of_heap Ka6.out
  have ltb6 := lt_of_heap Kb6.out
  have nwa : ¬ w.heap.size = w6.heap.size := by omega
  have nva : ¬ w6.heap.size = w.heap.size := by omega
  have nwb : ¬ w2.heap.size = w6.heap.size := by omega
  have nvb : ¬ w6.heap.size = w2.heap.size := by omega
  clear hb6
  go_wp2_with fail
  go_ret
  exact ⟨rfl, KB6.out⟩
theorem LWBack.walk (W : World) (n : ByteArray) (l m : Int) (_ : (Lit.int .i64 l).wf = true) (_ : (Lit.int .i64 m).wf = true) (s : ByteArray) : Calls Try.prog 5 #[.agg #[.string n, .int .i64 l, .int .i64 m], .string s] W fun e w' => e = .returned (.bool true) ∧ Below W.heap.size W w' := by
  by_cases h : 2000 < n.size ∨ 2000 < s.size
  · exact back_big n l m s W h
  · have hn : n.size ≤ 2000 := by omega
    have hs : s.size ≤ 2000 := by omega
    cases hr : rightT n.data.toList l m
    · by_cases hT : ∃ n l m, IsT s.data.toList n l m
      · obtain ⟨u, a, b, hT⟩ := hT
        exact back_no_yes n s W hn hs l m hr ⟨u.toArray⟩ a b (by simpa using hT)
      · exact back_no_no n s W hn hs l m hr hT
    · obtain ⟨hN, h1, h2, h3, h4⟩ := right_true hr
      obtain ⟨k, rfl⟩ := Int.eq_ofNat_of_zero_le h1
      obtain ⟨q, rfl⟩ := Int.eq_ofNat_of_zero_le h3
      have hq : q < 2 ^ (k + 1) := by
        have : ((2 ^ (k + 1) : Nat) : Int) = (2 : Int) ^ (k + 1) := by simp
        simp only [Int.toNat_natCast] at h4
        omega
      by_cases hT : ∃ n l m, IsT s.data.toList n l m
      · obtain ⟨u, a, b, hT⟩ := hT
        exact back_yes_yes n s W hn hs k q hN (by omega) hq ⟨u.toArray⟩ a b (by simpa using hT)
      · exact back_yes_no n s W hn hs k q hN (by omega) hq hT
end Go.Proofs.Ytfinboplkjijhaa
