/- The walk of the law ParseTypes. -/
import Derived.Test.YtaohniiemhahdaaGreatDoorQa38
namespace Go.Proofs.YtaohniiemhahdaaGreatDoor.LPTypes
open Go.RowKit

theorem bz_self (n : ByteArray) : bz n.data.toList = n := by unfold bz; simp
set_option maxRecDepth 100000 in
set_option maxHeartbeats 4000000 in
theorem walk (n : ByteArray) (l m : Int) (w : World) (hn : n.size ≤ 140737488355328) (h3 : Laid3 w) (h5 : Laid5 w) : Calls Tryz.prog 9 #[.agg #[.string n, .int .i64 l, .int .i64 m]] w fun e w' => e = .returned (.bool true) ∧ Below w.heap.size w w' := by
  have HA := fun wx (hb : Below w.heap.size w wx) => Lib.hid (awake_any wx (h3.below hb) (h5.below hb))
  have B0 := Lib.hid (below_new' w (.cells #[.string n, .int .i64 l, .int .i64 m] 39))
  have Y := Lib.hid (heap_alloc_last w (.cells #[.string n, .int .i64 l, .int .i64 m] 39))
  have hsz : Hid ((w.alloc (.cells #[.string n, .int .i64 l, .int .i64 m] 39)).heap.size = w.heap.size + 1) := Lib.hid (by simp)
  cases hr : rightT n.data.toList l m with
  | false =>
    have HP := fun wx => Lib.hid (wprint_no n l m wx (by omega) hr)
    obtain ⟨k0, k1, k2, f0, f1, f2⟩ := ty_cells Y.out
    clear hr h3 h5
    go_enter Tryz.func9, Tryz.ntmps9
    go_wp2_with fail
    refine (HP _).out.mono ?_
    rintro e w1 ⟨rfl, hb1⟩
    have B1 := Lib.hid (B0.out.trans (hb1.mono B0.out.size))
    clear hb1 k0 k1 k2 f0 f1 f2
    go_wp2_with fail
    refine (HA _ B1.out).out.mono ?_
    rintro e w2 ⟨rfl, hb2⟩
    have B2 := Lib.hid (B1.out.trans (hb2.mono B1.out.size))
    clear hb2
    go_wp2_with fail
    go_ret
    exact ⟨rfl, B2.out⟩
  | true =>
    have hrr := hr
    simp only [rightT, Bool.and_eq_true, decide_eq_true_eq] at hrr
    obtain ⟨hN, hl0, hl4, hm0, hm2⟩ := hrr
    obtain ⟨k, rfl⟩ : ∃ k : Nat, l = (k : Int) := ⟨l.toNat, by omega⟩
    obtain ⟨q, rfl⟩ : ∃ q : Nat, m = (q : Int) := ⟨m.toNat, by omega⟩
    have hk : k ≤ 4 := by omega
    have hq : q < 2 ^ (k + 1) := by
      simp only [Int.toNat_natCast] at hm2
      have : ((2 ^ (k + 1) : Nat) : Int) = (2 : Int) ^ (k + 1) := by simp
      omega
    have HP := fun wx => Lib.hid (wprint_yes n k q wx (by omega) hN hk hq)
    have hS : Hid ((⟨(printW n.data.toList k q).toArray⟩ : ByteArray).data.toList = printW n.data.toList k q) := Lib.hid (by simp)
    have hT : Hid ((⟨(printW n.data.toList k q).toArray⟩ : ByteArray).size ≤ 3000 → typeA (⟨(printW n.data.toList k q).toArray⟩ : ByteArray).data.toList = (.agg #[.string n, .int .i64 (k : Int), .int .i64 (q : Int)], 0)) := Lib.hid (fun hs => by
      rw [hS.out]
      have hl : (printW n.data.toList k q).length ≤ 8192 := by
        have : (⟨(printW n.data.toList k q).toArray⟩ : ByteArray).size = (printW n.data.toList k q).length := by rw [Lib.size_eq, hS.out]
        omega
      rw [typeA_print hN hk hq hl, bz_self])
    have HT := fun (s : ByteArray) wx (hb : Below w.heap.size w wx) (hs : s.size ≤ 9000) => Lib.hid (ptype_any s wx hs (h3.below hb))
    have hz0 : (⟨(printW n.data.toList k q).toArray⟩ : ByteArray).size ≤ 9223372036854775807 := by
      have h1 : (⟨(printW n.data.toList k q).toArray⟩ : ByteArray).size = (printW n.data.toList k q).length := by rw [Lib.size_eq, hS.out]
      have h2 := printW_len n.data.toList k q
      have h4 : n.data.toList.length = n.size := Array.length_toList
      omega
    obtain ⟨k0, k1, k2, f0, f1, f2⟩ := ty_cells Y.out
    clear hr h3 h5 hN hl0 hl4 hm0 hm2 hk hq hS
    generalize (⟨(printW n.data.toList k q).toArray⟩ : ByteArray) = S at *
    by_cases hb : 3000 < S.size
    · have t1 : decide ((3000 : Int) < (S.size : Int)) = true := by simp; omega
      go_enter Tryz.func9, Tryz.ntmps9
      go_wp2_with fail
      refine (HP _).out.mono ?_
      rintro e w1 ⟨rfl, hb1⟩
      have B1 := Lib.hid (B0.out.trans (hb1.mono B0.out.size))
      clear hb1 k0 k1 k2 f0 f1 f2
      go_wp2_with fail
      refine (HA _ B1.out).out.mono ?_
      rintro e w2 ⟨rfl, hb2⟩
      have B2 := Lib.hid (B1.out.trans (hb2.mono B1.out.size))
      clear hb2
      go_wp2_with fail
      go_ret
      exact ⟨rfl, B2.out⟩
    · have t1 : decide ((3000 : Int) < (S.size : Int)) = false := by simp; omega
      have HT := fun wx hb => HT S wx hb (by omega)
      rw [hT.out (by omega)] at HT
      clear hT hb
      go_enter Tryz.func9, Tryz.ntmps9
      go_wp2_with fail
      refine (HP _).out.mono ?_
      rintro e w1 ⟨rfl, hb1⟩
      have B1 := Lib.hid (B0.out.trans (hb1.mono B0.out.size))
      have Y1 := Lib.hid ((hb1.block w.heap.size (by rw [hsz.out]; omega)).trans Y.out)
      clear hb1 k0 k1 k2 f0 f1 f2
      go_wp2_with fail
      refine (HT _ B1.out).out.mono ?_
      rintro e w2 ⟨rfl, hb2⟩
      have B2 := Lib.hid (B1.out.trans (hb2.mono B1.out.size))
      have B3 := Lib.hid (B2.out.alloc B2.out.size (.cells #[.string n, .int .i64 (k : Int), .int .i64 (q : Int)] 39))
      have hl1 := (Array.getElem?_eq_some_iff.1 Y1.out).1
      have y2 := (hb2.block w.heap.size hl1).trans Y1.out
      have Y2 := (Below.heap_alloc w2 (.cells #[.string n, .int .i64 (k : Int), .int .i64 (q : Int)] 39) w.heap.size (Array.getElem?_eq_some_iff.1 y2).1).trans y2
      have U2 := heap_alloc_last w2 (.cells #[.string n, .int .i64 (k : Int), .int .i64 (q : Int)] 39)
      obtain ⟨k0, k1, k2, f0, f1, f2⟩ := ty_cells Y2
      obtain ⟨j0, j1, j2, g0, g1, g2⟩ := ty_cells U2
      clear hb2 Y2 U2 y2
      go_wp2_with fail
      refine (HA _ B3.out).out.mono ?_
      rintro e w3 ⟨rfl, hb3⟩
      have B4 := Lib.hid (B3.out.trans (hb3.mono B3.out.size))
      clear hb3
      go_wp2_with fail
      go_ret
      exact ⟨rfl, B4.out⟩
end Go.Proofs.YtaohniiemhahdaaGreatDoor.LPTypes
