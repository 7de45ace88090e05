/- The walk of the library's own reading of four digits to the base 16. -/
import Derived.Test.YtcdcfhplkimecaaGreatDoorTStr
import Derived.Lib.ConvBytes
import Derived.Laws.Strings3
import Derived.Laws.Closers25
import Derived.Laws.Closers25b
import Derived.BigCall
import Derived.BigGuard
import Derived.Lib.Walk
namespace Go.Proofs.YtcdcfhplkimecaaGreatDoor
open Go.RowKit

/-- The number that digits to the base 16 are, behind what has been read. -/
def pu : Int → List UInt8 → Option Int
  | acc, [] => some acc
  | acc, b :: t => if hexB b then pu (acc * 16 + hexI b) t else none
def puS (l : List UInt8) : Value := match pu 0 l with | some v => .tuple #[.int .u64 v, .nilIface] | none => .tuple #[.int .u64 0, .iface 126 (.int .i64 2)]
def lowI (b : UInt8) : Int := bits .or .u8 (b.toNat : Int) 32
theorem hex_dig : ∀ b : UInt8, ((48 : Int) ≤ (b.toNat : Int) ∧ (b.toNat : Int) ≤ 57) → hexB b = true ∧ hexI b = (b.toNat : Int) - 48 := byte_all (by decide +kernel)
theorem hex_low : ∀ b : UInt8, ¬ ((48 : Int) ≤ (b.toNat : Int) ∧ (b.toNat : Int) ≤ 57) → (97 : Int) ≤ lowI b → lowI b ≤ 102 → hexB b = true ∧ hexI b = lowI b - 87 := byte_all (by decide +kernel)
theorem hex_not : ∀ b : UInt8, ¬ ((48 : Int) ≤ (b.toNat : Int) ∧ (b.toNat : Int) ≤ 57) → ¬ ((97 : Int) ≤ lowI b ∧ lowI b ≤ 102) → hexB b = false := byte_all (by decide +kernel)
theorem lower_any (b : UInt8) (w : World) : Calls Tryz.prog 111 #[.int .u8 (b.toNat : Int)] w fun e w' => e = .returned (.int .u8 (lowI b)) ∧ w = w' := by
  go_enter Tryz.func111, Tryz.ntmps111
  go_wp2
  go_ret
  exact ⟨rfl, rfl⟩
def lim : Nat → Int | 0 => 1 | 1 => 16 | 2 => 256 | 3 => 4096 | _ => 65536
theorem lim_le {k : Nat} {a : Int} (hk : k < 4) (h : a < lim k) : a ≤ 4095 := by
  rcases (by omega : k = 0 ∨ k = 1 ∨ k = 2 ∨ k = 3) with rfl | rfl | rfl | rfl <;> simp only [lim] at h <;> omega
theorem lim_next {k : Nat} {a d : Int} (hk : k < 4) (h : a < lim k) (hd : d ≤ 15) : a * 16 + d < lim (k + 1) := by
  rcases (by omega : k = 0 ∨ k = 1 ∨ k = 2 ∨ k = 3) with rfl | rfl | rfl | rfl <;> simp only [lim] at h ⊢ <;> omega
theorem below_bytes (w : World) (e : TypeId) (s : ByteArray) : Below w.heap.size w (Lib.bytesWorld w e s) := by
  unfold Lib.bytesWorld
  exact Lib.below_freeze ((Below.drew (Below.refl _ w)).alloc (Nat.le_refl _) _) (p := ⟨w.heap.size, _, none⟩) (Nat.le_refl _) 1

set_option maxRecDepth 100000 in
set_option maxHeartbeats 4000000 in
theorem parse_in (t : ByteArray) (h4 : t.size = 4) (w : World) : Calls Tryz.prog 105 #[.string t, .int .i64 16, .int .i64 16] w fun e w' => e = .returned (puS t.data.toList) ∧ Below w.heap.size w w' := by
  have hemp := empty_no (s := t) (by omega)
  have hcv := Lib.run_convert_string_bytes (P := Tryz.prog) w 9 44 5 t (u := .string) Tryz.underlying9 Tryz.underlying44 Tryz.underlying5
  have hB : ∀ j, j < t.size → (Lib.bytesWorld w 5 t).cell? ⟨w.heap.size, j, none⟩ = some (.int .u8 (t.data.toList.getD j 0).toNat) := fun j hj => Lib.bytesWorld_cell w 5 t j hj
  have hbl := below_bytes w 5 t
  obtain ⟨W1, hW1⟩ : ∃ W1, W1 = Lib.bytesWorld w 5 t := ⟨_, rfl⟩
  rw [← hW1] at hcv hB hbl
  have HBL := Lib.hid hbl
  clear hW1 hbl
  have hLn := len_data t
  obtain ⟨bs, hL⟩ : ∃ bs, bs = t.data.toList := ⟨_, rfl⟩
  rw [← hL] at hB hLn ⊢
  clear hL
  obtain ⟨V, hV⟩ : ∃ V, puS bs = V := ⟨_, rfl⟩
  have HV := Lib.hid hV
  rw [hV]
  clear hV
  have hmv : IntKind.u64.wrap (IntKind.u64.wrap 65536 - 1) = 65535 := by
    rw [IntKind.wrap_u64, IntKind.wrap_u64]
    decide
  go_enter Tryz.func105, Tryz.ntmps105
  go_wp2
  go_loop [12, 13, 101] (fun vu vn vi => ∃ (k : Nat) (a : Int), vu = .bool false ∧ vn = .int .u64 a ∧ vi = .int .i64 k ∧ k ≤ t.size ∧ Hid (0 ≤ a ∧ a < lim k ∧ pu 0 bs = pu a (bs.drop k)))
    (fun _ _ vi => t.size - (intOf vi).toNat)
  case atStart => exact ⟨0, 0, rfl, rfl, rfl, by omega, Lib.hid ⟨by omega, by simp [lim], rfl⟩⟩
  case round =>
    obtain ⟨k, a, rfl, rfl, rfl, hk, hh⟩ := hrel
    obtain ⟨a0, hal, hdec⟩ := hh.out
    clear hh
    by_cases hkn : k < t.size
    · have hk4 : k < 4 := by omega
      have a1 := lim_le hk4 hal
      have hc := hB k hkn
      have hdrop : bs.drop k = bs[k]'(by omega) :: bs.drop (k + 1) := List.drop_eq_getElem_cons (by omega)
      have hget : bs.getD k 0 = bs[k]'(by omega) := by simp [List.getD, List.getElem?_eq_getElem (show k < bs.length by omega)]
      rw [hdrop] at hdec
      rw [hget] at hc
      generalize bs[k]'(by omega) = c at hc hdec
      have hc256 : c.toNat < 256 := c.toNat_lt
      have HLO := Lib.hid (lower_any c W1)
      clear hB hdrop hget
      have h95 : ((c.toNat : Int) == 95) = true ∨ ((c.toNat : Int) == 95) = false := by cases ((c.toNat : Int) == 95) <;> simp
      by_cases hd0 : (48 : Int) ≤ (c.toNat : Int) ∧ (c.toNat : Int) ≤ 57
      · obtain ⟨hx, hv⟩ := hex_dig c hd0
        obtain ⟨d0, d1⟩ := hd0
        have HN : Hid (0 ≤ a * 16 + ((c.toNat : Int) - 48) ∧ a * 16 + ((c.toNat : Int) - 48) < lim (k + 1) ∧ pu 0 bs = pu (a * 16 + ((c.toNat : Int) - 48)) (bs.drop (k + 1))) := Lib.hid ⟨by omega, lim_next hk4 hal (by omega), hdec.trans (by rw [pu, hx, hv]; rfl)⟩
        clear hdec hx hv hal h95
        go_wp2
        refine ⟨⟨k + 1, a * 16 + ((c.toNat : Int) - 48), rfl, (by first | rfl | (congr 1; omega)), (by first | rfl | (congr 1; omega)), by omega, HN⟩, by simp [intOf]; omega⟩
      · have hdd : (c.toNat : Int) < 48 ∨ (57 < (c.toNat : Int)) := by omega
        by_cases hl : (97 : Int) ≤ lowI c ∧ lowI c ≤ 102
        · obtain ⟨hx, hv⟩ := hex_low c hd0 hl.1 hl.2
          obtain ⟨l0, l1⟩ := hl
          have l2 : lowI c ≤ 122 := by omega
          have l3 : lowI c - 87 < 16 := by omega
          have HN : Hid (0 ≤ a * 16 + (lowI c - 87) ∧ a * 16 + (lowI c - 87) < lim (k + 1) ∧ pu 0 bs = pu (a * 16 + (lowI c - 87)) (bs.drop (k + 1))) := Lib.hid ⟨by omega, lim_next hk4 hal (by omega), hdec.trans (by rw [pu, hx, hv]; rfl)⟩
          generalize lowI c = v at *
          clear hdec hx hv hal hd0
          rcases h95 with h95 | h95
          · rcases hdd with hdd | hdd
            · have hdd3 : ¬ (48 : Int) ≤ (c.toNat : Int) := by omega
              go_wp2_with fail
              refine HLO.out.mono ?_
              rintro e w1 ⟨rfl, rfl⟩
              go_wp2_with fail
              refine HLO.out.mono ?_
              rintro e w1 ⟨rfl, rfl⟩
              go_wp2_with fail
              refine HLO.out.mono ?_
              rintro e w1 ⟨rfl, rfl⟩
              go_wp2_with fail
              refine ⟨⟨k + 1, a * 16 + (v - 87), rfl, (by first | rfl | (congr 1; omega)), (by first | rfl | (congr 1; omega)), by omega, HN⟩, by simp [intOf]; omega⟩
            · have hdd1 : (48 : Int) ≤ (c.toNat : Int) := by omega
              have hdd2 : ¬ (c.toNat : Int) ≤ 57 := by omega
              go_wp2_with fail
              refine HLO.out.mono ?_
              rintro e w1 ⟨rfl, rfl⟩
              go_wp2_with fail
              refine HLO.out.mono ?_
              rintro e w1 ⟨rfl, rfl⟩
              go_wp2_with fail
              refine HLO.out.mono ?_
              rintro e w1 ⟨rfl, rfl⟩
              go_wp2_with fail
              refine ⟨⟨k + 1, a * 16 + (v - 87), rfl, (by first | rfl | (congr 1; omega)), (by first | rfl | (congr 1; omega)), by omega, HN⟩, by simp [intOf]; omega⟩
          · rcases hdd with hdd | hdd
            · have hdd3 : ¬ (48 : Int) ≤ (c.toNat : Int) := by omega
              go_wp2_with fail
              refine HLO.out.mono ?_
              rintro e w1 ⟨rfl, rfl⟩
              go_wp2_with fail
              refine HLO.out.mono ?_
              rintro e w1 ⟨rfl, rfl⟩
              go_wp2_with fail
              refine HLO.out.mono ?_
              rintro e w1 ⟨rfl, rfl⟩
              go_wp2_with fail
              refine ⟨⟨k + 1, a * 16 + (v - 87), rfl, (by first | rfl | (congr 1; omega)), (by first | rfl | (congr 1; omega)), by omega, HN⟩, by simp [intOf]; omega⟩
            · have hdd1 : (48 : Int) ≤ (c.toNat : Int) := by omega
              have hdd2 : ¬ (c.toNat : Int) ≤ 57 := by omega
              go_wp2_with fail
              refine HLO.out.mono ?_
              rintro e w1 ⟨rfl, rfl⟩
              go_wp2_with fail
              refine HLO.out.mono ?_
              rintro e w1 ⟨rfl, rfl⟩
              go_wp2_with fail
              refine HLO.out.mono ?_
              rintro e w1 ⟨rfl, rfl⟩
              go_wp2_with fail
              refine ⟨⟨k + 1, a * 16 + (v - 87), rfl, (by first | rfl | (congr 1; omega)), (by first | rfl | (congr 1; omega)), by omega, HN⟩, by simp [intOf]; omega⟩
        · have hx := hex_not c hd0 hl
          have hF : Hid (V = .tuple #[.int .u64 0, .iface 126 (.int .i64 2)]) := Lib.hid (by rw [← HV.out, puS, show pu 0 bs = none from hdec.trans (by simp [pu, hx])])
          have hlow := bits_lo_u8 .or (c.toNat : Int) 32
          have hhi := bits_hi_u8 .or (c.toNat : Int) 32
          change 0 ≤ lowI c at hlow
          change lowI c ≤ 255 at hhi
          generalize lowI c = v at *
          clear hdec hx hal hd0 HV
          rcases (by omega : v < 97 ∨ (97 ≤ v ∧ 122 < v) ∨ (97 ≤ v ∧ v ≤ 122 ∧ 103 ≤ v)) with l0 | ⟨l0, l1⟩ | ⟨l0, l1, l2⟩
          · clear hl
            have l9 : ¬ 97 ≤ v := by omega
            rcases h95 with h95 | h95
            · rcases hdd with hdd | hdd
              · have hdd3 : ¬ (48 : Int) ≤ (c.toNat : Int) := by omega
                go_wp2_with fail
                refine HLO.out.mono ?_
                rintro e w1 ⟨rfl, rfl⟩
                go_wp2_with fail
                go_ret2
                exact ⟨by rw [hF.out]; rfl, HBL.out⟩
              · have hdd1 : (48 : Int) ≤ (c.toNat : Int) := by omega
                have hdd2 : ¬ (c.toNat : Int) ≤ 57 := by omega
                go_wp2_with fail
                refine HLO.out.mono ?_
                rintro e w1 ⟨rfl, rfl⟩
                go_wp2_with fail
                go_ret2
                exact ⟨by rw [hF.out]; rfl, HBL.out⟩
            · rcases hdd with hdd | hdd
              · have hdd3 : ¬ (48 : Int) ≤ (c.toNat : Int) := by omega
                go_wp2_with fail
                refine HLO.out.mono ?_
                rintro e w1 ⟨rfl, rfl⟩
                go_wp2_with fail
                go_ret2
                exact ⟨by rw [hF.out]; rfl, HBL.out⟩
              · have hdd1 : (48 : Int) ≤ (c.toNat : Int) := by omega
                have hdd2 : ¬ (c.toNat : Int) ≤ 57 := by omega
                go_wp2_with fail
                refine HLO.out.mono ?_
                rintro e w1 ⟨rfl, rfl⟩
                go_wp2_with fail
                go_ret2
                exact ⟨by rw [hF.out]; rfl, HBL.out⟩
          · clear hl
            have l9 : ¬ v ≤ 122 := by omega
            rcases h95 with h95 | h95
            · rcases hdd with hdd | hdd
              · have hdd3 : ¬ (48 : Int) ≤ (c.toNat : Int) := by omega
                go_wp2_with fail
                refine HLO.out.mono ?_
                rintro e w1 ⟨rfl, rfl⟩
                go_wp2_with fail
                refine HLO.out.mono ?_
                rintro e w1 ⟨rfl, rfl⟩
                go_wp2_with fail
                go_ret2
                exact ⟨by rw [hF.out]; rfl, HBL.out⟩
              · have hdd1 : (48 : Int) ≤ (c.toNat : Int) := by omega
                have hdd2 : ¬ (c.toNat : Int) ≤ 57 := by omega
                go_wp2_with fail
                refine HLO.out.mono ?_
                rintro e w1 ⟨rfl, rfl⟩
                go_wp2_with fail
                refine HLO.out.mono ?_
                rintro e w1 ⟨rfl, rfl⟩
                go_wp2_with fail
                go_ret2
                exact ⟨by rw [hF.out]; rfl, HBL.out⟩
            · rcases hdd with hdd | hdd
              · have hdd3 : ¬ (48 : Int) ≤ (c.toNat : Int) := by omega
                go_wp2_with fail
                refine HLO.out.mono ?_
                rintro e w1 ⟨rfl, rfl⟩
                go_wp2_with fail
                refine HLO.out.mono ?_
                rintro e w1 ⟨rfl, rfl⟩
                go_wp2_with fail
                go_ret2
                exact ⟨by rw [hF.out]; rfl, HBL.out⟩
              · have hdd1 : (48 : Int) ≤ (c.toNat : Int) := by omega
                have hdd2 : ¬ (c.toNat : Int) ≤ 57 := by omega
                go_wp2_with fail
                refine HLO.out.mono ?_
                rintro e w1 ⟨rfl, rfl⟩
                go_wp2_with fail
                refine HLO.out.mono ?_
                rintro e w1 ⟨rfl, rfl⟩
                go_wp2_with fail
                go_ret2
                exact ⟨by rw [hF.out]; rfl, HBL.out⟩
          · clear hl
            have l9 : ¬ v - 87 < 16 := by omega
            have l8 : 16 ≤ v - 87 := by omega
            rcases h95 with h95 | h95
            · rcases hdd with hdd | hdd
              · have hdd3 : ¬ (48 : Int) ≤ (c.toNat : Int) := by omega
                go_wp2_with fail
                refine HLO.out.mono ?_
                rintro e w1 ⟨rfl, rfl⟩
                go_wp2_with fail
                refine HLO.out.mono ?_
                rintro e w1 ⟨rfl, rfl⟩
                go_wp2_with fail
                refine HLO.out.mono ?_
                rintro e w1 ⟨rfl, rfl⟩
                go_wp2_with fail
                go_ret2
                exact ⟨by rw [hF.out]; rfl, HBL.out⟩
              · have hdd1 : (48 : Int) ≤ (c.toNat : Int) := by omega
                have hdd2 : ¬ (c.toNat : Int) ≤ 57 := by omega
                go_wp2_with fail
                refine HLO.out.mono ?_
                rintro e w1 ⟨rfl, rfl⟩
                go_wp2_with fail
                refine HLO.out.mono ?_
                rintro e w1 ⟨rfl, rfl⟩
                go_wp2_with fail
                refine HLO.out.mono ?_
                rintro e w1 ⟨rfl, rfl⟩
                go_wp2_with fail
                go_ret2
                exact ⟨by rw [hF.out]; rfl, HBL.out⟩
            · rcases hdd with hdd | hdd
              · have hdd3 : ¬ (48 : Int) ≤ (c.toNat : Int) := by omega
                go_wp2_with fail
                refine HLO.out.mono ?_
                rintro e w1 ⟨rfl, rfl⟩
                go_wp2_with fail
                refine HLO.out.mono ?_
                rintro e w1 ⟨rfl, rfl⟩
                go_wp2_with fail
                refine HLO.out.mono ?_
                rintro e w1 ⟨rfl, rfl⟩
                go_wp2_with fail
                go_ret2
                exact ⟨by rw [hF.out]; rfl, HBL.out⟩
              · have hdd1 : (48 : Int) ≤ (c.toNat : Int) := by omega
                have hdd2 : ¬ (c.toNat : Int) ≤ 57 := by omega
                go_wp2_with fail
                refine HLO.out.mono ?_
                rintro e w1 ⟨rfl, rfl⟩
                go_wp2_with fail
                refine HLO.out.mono ?_
                rintro e w1 ⟨rfl, rfl⟩
                go_wp2_with fail
                refine HLO.out.mono ?_
                rintro e w1 ⟨rfl, rfl⟩
                go_wp2_with fail
                go_ret2
                exact ⟨by rw [hF.out]; rfl, HBL.out⟩
    · have hkk : k = t.size := by omega
      have hF : Hid (pu 0 bs = some a) := Lib.hid (hdec.trans (by rw [List.drop_eq_nil_of_le (by omega)]; rfl))
      subst hkk
      clear hdec hal
      go_wp2
      go_ret2
      exact ⟨by rw [← HV.out, puS, hF.out]; rfl, HBL.out⟩
end Go.Proofs.YtcdcfhplkimecaaGreatDoor
