/- The walk of the law LettersNames, at every input. -/
import Derived.Test.YtkddbmdjcjldgaaDoorAwake
import Derived.Laws.BytesString
import Derived.Laws.Append
import Derived.Deep.DeepCutAuto
namespace Go.Proofs.YtkddbmdjcjldgaaDoor
open Go.RowKit

theorem names_big (s t : ByteArray) (c : Int) (w : World) (hbig : 3000 < s.size ∨ 3000 < t.size) (ht : TabAt w) :
    Calls Tryd.prog 7 #[.string s, .string t, .int .u8 c] w fun e w' => e = .returned (.bool true) ∧ Below w.heap.size w w' := by
  have HA := Lib.hid (awake_any w ht)
  clear ht
  by_cases h1 : 3000 < s.size
  · go_enter Tryd.func7, Tryd.ntmps7
    go_wp2_with fail
    refine HA.out.mono ?_
    rintro e w1 ⟨rfl, hb⟩
    go_wp2_with fail
    go_ret
    exact ⟨rfl, hb⟩
  · have h2 : 3000 < t.size := by omega
    clear hbig
    go_enter Tryd.func7, Tryd.ntmps7
    go_wp2_with fail
    refine HA.out.mono ?_
    rintro e w1 ⟨rfl, hb⟩
    go_wp2_with fail
    go_ret
    exact ⟨rfl, hb⟩

def partB (b : Int) : Bool := letB b || digB b
theorem cat_list (s t : ByteArray) : (s ++ t).data.toList = s.data.toList ++ t.data.toList := by simp
theorem names_seven (s : ByteArray) : nameB ((⟨#[55]⟩ : ByteArray) ++ s).data.toList = false := by
  rw [cat_list]; rfl
theorem names_cat {s t : ByteArray} (ha : nameB s.data.toList = true) (ht : tailB t.data.toList = true) : nameB (s ++ t).data.toList = true := by
  rw [cat_list, nameB_append _ _ (by intro e; rw [e] at ha; cases ha), ha, ht]; rfl
theorem names_part {s : ByteArray} (ha : nameB s.data.toList = true) (b : UInt8) : nameB (s ++ ⟨#[b]⟩).data.toList = partB (b.toNat : Int) := by
  rw [cat_list, nameB_append _ _ (by intro e; rw [e] at ha; cases ha), ha]; simp [tailB, partB]
theorem seven_size (s : ByteArray) : ((⟨#[55]⟩ : ByteArray) ++ s).size = s.size + 1 := by rw [ByteArray.size_append]; show 1 + _ = _; omega

theorem one_byte (b : UInt8) (w : World) : (convert 37 9 (.slice (some ⟨w.heap.size, 0, none⟩) 1 1)).run Tryd.prog (w.alloc (.cells #[.int .u8 b.toNat] 5)) = .ok (.string ⟨#[b]⟩) (w.alloc (.cells #[.int .u8 b.toNat] 5)) := by
  rw [run_convert_bytes_string _ _ _ _ _ _ _ Tryd.underlying37 Tryd.underlying5 Tryd.underlying9]
  rw [run_bytesToString _ _ _ _ [(b.toNat : Int)]]
  · simp only [List.foldl_cons, List.foldl_nil, Int.toNat_natCast, UInt8.ofNat_toNat]; rfl
  · have := run_loadCells (P := Tryd.prog) (w.alloc (.cells #[.int .u8 b.toNat] 5)) ⟨w.heap.size, 0, none⟩ 1 (fun _ => .int .u8 b.toNat) (fun j hj => by
      obtain rfl : j = 0 := by omega
      show World.cell? _ ⟨w.heap.size, 0, none⟩ = _
      rw [World.cell?_alloc_at _ _ _ _ rfl]; rfl)
    simpa using this

set_option maxRecDepth 100000 in
set_option maxHeartbeats 1000000 in
theorem names_small (s t : ByteArray) (b : UInt8) (w : World) (h1 : s.size ≤ 3000) (h2 : t.size ≤ 3000) (ht : TabAt w) :
    Calls Tryd.prog 7 #[.string s, .string t, .int .u8 b.toNat] w fun e w' => e = .returned (.bool true) ∧ Below w.heap.size w w' := by
  have HT := Lib.hid ht
  clear ht
  have H7 := Lib.hid (names_seven s)
  have C7 := Lib.hid (name_any ((⟨#[55]⟩ : ByteArray) ++ s) w (by rw [seven_size]; omega))
  have C09 := Lib.hid (name_any (s ++ ⟨#[48, 57]⟩) w (by rw [ByteArray.size_append]; show s.size + 2 ≤ _; omega))
  have CT := Lib.hid (name_any (s ++ t) w (by rw [ByteArray.size_append]; omega))
  have CB := fun w => Lib.hid (name_any (s ++ ⟨#[b]⟩) w (by rw [ByteArray.size_append]; show s.size + 1 ≤ _; omega))
  have conv := one_byte b w
  cases ha : nameB s.data.toList
  · cases hb : nameB t.data.toList
    all_goals
      have HA := Lib.hid ha
      have HB := Lib.hid hb
      clear ha hb
      go_enter Tryd.func7, Tryd.ntmps7
      go_wp2_with fail
      refine (name_any s w (by omega)).mono ?_
      rintro e w1 ⟨rfl, rfl⟩
      rw [HA.out]
      go_wp2_with fail
      refine (name_any t w (by omega)).mono ?_
      rintro e w1 ⟨rfl, rfl⟩
      rw [HB.out]
      go_wp2_with fail
      refine C7.out.mono ?_
      rintro e w1 ⟨rfl, rfl⟩
      rw [H7.out]
      go_upto_region 6 with (fail)
      go_cut [9] (fun p wx => p = .bool (partB (b.toNat : Int)) ∧ w = wx)
      case first =>
        go_wp2_with fail
        all_goals go_meet
        all_goals exact ⟨congrArg Value.bool (Bool.eq_iff_iff.2 (by simp [partB, letB, digB]; try omega)), rfl⟩
      case rest =>
        obtain ⟨rfl, rfl⟩ := hcut
        go_wp2_with fail
        refine (awake_any _ HT.out).mono ?_
        rintro e w1 ⟨rfl, hb⟩
        go_wp2_with fail
        go_ret
        exact ⟨rfl, hb⟩
  · have K3 := Lib.hid (names_part ha b)
    have K2 := Lib.hid (names_cat (t := ⟨#[48, 57]⟩) ha (by decide +kernel))
    have HB0 := Lib.hid ((Below.refl w.heap.size w).alloc (Nat.le_refl _) (.cells #[.int .u8 b.toNat] 5))
    cases hb : nameB t.data.toList
    · have HA := Lib.hid ha
      have HB := Lib.hid hb
      clear ha hb
      go_enter Tryd.func7, Tryd.ntmps7
      go_wp2_with fail
      refine (name_any s w (by omega)).mono ?_
      rintro e w1 ⟨rfl, rfl⟩
      rw [HA.out]
      go_wp2_with fail
      refine (name_any t w (by omega)).mono ?_
      rintro e w1 ⟨rfl, rfl⟩
      rw [HB.out]
      go_wp2_with fail
      refine C09.out.mono ?_
      rintro e w1 ⟨rfl, rfl⟩
      rw [K2.out]
      go_wp2_with fail
      refine C7.out.mono ?_
      rintro e w1 ⟨rfl, rfl⟩
      rw [H7.out]
      go_upto_region 6 with (fail)
      go_cut [9] (fun p wx => p = .bool (partB (b.toNat : Int)) ∧ w = wx)
      case first =>
        go_wp2_with fail
        all_goals go_meet
        all_goals exact ⟨congrArg Value.bool (Bool.eq_iff_iff.2 (by simp [partB, letB, digB]; try omega)), rfl⟩
      case rest =>
        obtain ⟨rfl, rfl⟩ := hcut
        go_wp2_with fail
        refine (CB _).out.mono ?_
        rintro e w1 ⟨rfl, rfl⟩
        rw [K3.out]
        have hpe : (partB (b.toNat : Int) == partB (b.toNat : Int)) = true := by simp
        go_wp2_with fail
        refine (awake_any _ (HT.out.below HB0.out HT.out.lt)).mono ?_
        rintro e w1 ⟨rfl, hb⟩
        go_wp2_with fail
        go_ret
        exact ⟨rfl, HB0.out.trans (hb.mono HB0.out.size)⟩
    · have HA := Lib.hid ha
      have HB := Lib.hid hb
      have K1 := Lib.hid (names_cat (t := t) ha (tailB_of_nameB hb))
      clear ha hb
      go_enter Tryd.func7, Tryd.ntmps7
      go_wp2_with fail
      refine (name_any s w (by omega)).mono ?_
      rintro e w1 ⟨rfl, rfl⟩
      rw [HA.out]
      go_wp2_with fail
      refine (name_any t w (by omega)).mono ?_
      rintro e w1 ⟨rfl, rfl⟩
      rw [HB.out]
      go_wp2_with fail
      refine CT.out.mono ?_
      rintro e w1 ⟨rfl, rfl⟩
      rw [K1.out]
      go_wp2_with fail
      refine C09.out.mono ?_
      rintro e w1 ⟨rfl, rfl⟩
      rw [K2.out]
      go_wp2_with fail
      refine C7.out.mono ?_
      rintro e w1 ⟨rfl, rfl⟩
      rw [H7.out]
      go_upto_region 6 with (fail)
      go_cut [9] (fun p wx => p = .bool (partB (b.toNat : Int)) ∧ w = wx)
      case first =>
        go_wp2_with fail
        all_goals go_meet
        all_goals exact ⟨congrArg Value.bool (Bool.eq_iff_iff.2 (by simp [partB, letB, digB]; try omega)), rfl⟩
      case rest =>
        obtain ⟨rfl, rfl⟩ := hcut
        go_wp2_with fail
        refine (CB _).out.mono ?_
        rintro e w1 ⟨rfl, rfl⟩
        rw [K3.out]
        have hpe : (partB (b.toNat : Int) == partB (b.toNat : Int)) = true := by simp
        go_wp2_with fail
        refine (awake_any _ (HT.out.below HB0.out HT.out.lt)).mono ?_
        rintro e w1 ⟨rfl, hb⟩
        go_wp2_with fail
        go_ret
        exact ⟨rfl, HB0.out.trans (hb.mono HB0.out.size)⟩
end Go.Proofs.YtkddbmdjcjldgaaDoor
