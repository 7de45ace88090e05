/- The walk of the document's Decimal. -/
import Derived.Test.YtnmidlbhkjcimaaDoorVRInt
import Derived.Test.YtnmidlbhkjcimaaDoorZMath
import Derived.Test.YtnmidlbhkjcimaaDoorVBox
import Derived.Laws.BytesString
import Derived.Laws.Append
namespace Go.Proofs.YtnmidlbhkjcimaaDoor
open Go.RowKit

theorem dec_small {r : Nat} (h : r < 10) : Lib.decDigits r = [UInt8.ofNat (48 + r)] := by
  rw [Lib.decDigits]; split
  · rfl
  · omega
theorem dec_big {r : Nat} (h : ¬ r < 10) : Lib.decDigits r = Lib.decDigits (r / 10) ++ [UInt8.ofNat (48 + r % 10)] := by
  rw [Lib.decDigits]; split
  · omega
  · rfl
/-- The digits of what is left, before those that are written. -/
def preD (r : Nat) : List UInt8 := if r = 0 then [] else Lib.decDigits r
theorem preD_step {r : Nat} (h : r ≠ 0) : preD r = preD (r / 10) ++ [UInt8.ofNat (48 + r % 10)] := by
  unfold preD
  rw [if_neg h]
  by_cases hl : r < 10
  · rw [if_pos (by omega), List.nil_append, Nat.mod_eq_of_lt hl, dec_small hl]
  · rw [if_neg (by omega)]
    rw [dec_big hl]
theorem dec_len : ∀ (k u : Nat), u < 10 ^ (k + 1) → (Lib.decDigits u).length ≤ k + 1
  | 0, u, h => by rw [dec_small (by simpa using h)]; simp
  | k + 1, u, h => by
    rw [Lib.decDigits]
    split
    · simp
    · have := dec_len k (u / 10) (by rw [Nat.pow_succ] at h; omega)
      rw [List.length_append]; simp; omega
theorem pre_len19 {u : Nat} (h : u ≤ 9223372036854775808) : (preD u).length ≤ 19 := by
  unfold preD
  split
  · simp
  · exact dec_len 18 u (by omega)
theorem add_here2 (b n : Nat) : (⟨b, 0, none⟩ : Addr).add n = ⟨b, n, none⟩ := by unfold Addr.add; split <;> simp_all
/-- The text of a new block of one byte. -/
theorem one_text (d : Nat) (w : World) : (convert 71 9 (.slice (some ⟨w.heap.size, 0, none⟩) 1 1)).run Tryd.prog (w.alloc (.cells #[.int .u8 (d : Int)] 5)) = .ok (.string ⟨#[UInt8.ofNat d]⟩) (w.alloc (.cells #[.int .u8 (d : Int)] 5)) := by
  rw [run_convert_bytes_string _ _ _ _ _ _ _ Tryd.underlying71 Tryd.underlying5 Tryd.underlying9]
  rw [run_bytesToString _ _ _ _ [(d : Int)]]
  · rfl
  · have := run_loadCells_list (P := Tryd.prog) (w.alloc (.cells #[.int .u8 (d : Int)] 5)) ⟨w.heap.size, 0, none⟩ [.int .u8 (d : Int)] (fun j v hj => by
      rw [add_here2, World.cell?_alloc_at _ _ _ _ rfl]
      simpa using hj)
    exact this
theorem cat_one (d : Nat) (l : List UInt8) : (⟨#[UInt8.ofNat d]⟩ : ByteArray) ++ ⟨l.toArray⟩ = ⟨(UInt8.ofNat d :: l).toArray⟩ := by
  refine ba_ext ?_
  simp
theorem cat_minus (l : List UInt8) : (⟨#[45]⟩ : ByteArray) ++ ⟨l.toArray⟩ = ⟨(45 :: l).toArray⟩ := by
  refine ba_ext ?_
  simp
theorem tmod_pos (r : Nat) : (r : Int).tmod 10 = ((r % 10 : Nat) : Int) := by
  rw [Int.tmod_eq_emod_of_nonneg (by omega)]; omega
theorem tdiv_pos (r : Nat) : (r : Int).tdiv 10 = ((r / 10 : Nat) : Int) := by
  rw [Int.tdiv_eq_ediv_of_nonneg (by omega)]; omega
theorem tmod_neg (r : Nat) : (-(r : Int)).tmod 10 = -((r % 10 : Nat) : Int) := by
  rw [Int.neg_tmod, tmod_pos]
theorem tdiv_neg (r : Nat) : (-(r : Int)).tdiv 10 = -((r / 10 : Nat) : Int) := by
  rw [Int.neg_tdiv, tdiv_pos]
set_option maxRecDepth 100000 in
set_option maxHeartbeats 4000000 in
theorem rdecimal_any (n : Int) (w : World) (h0 : -9223372036854775808 ≤ n) (h1 : n ≤ 9223372036854775807) : Calls Tryd.prog 41 #[.int .i64 n] w fun e w' => e = .returned (.string (itoaT n)) ∧ Below w.heap.size w w' := by
  by_cases hz : n = 0
  · subst hz
    have hr : Hid (itoaT 0 = ⟨#[48]⟩) := Lib.hid (by unfold itoaT Lib.itoa; rw [if_neg (by omega), show Int.toNat 0 = 0 from rfl, dec_small (by omega)]; rfl)
    go_enter Tryd.func41, Tryd.ntmps41
    go_wp2_with fail
    go_ret
    exact ⟨by rw [hr.out]; rfl, Below.refl _ _⟩
  · by_cases hp : 0 < n
    · obtain ⟨a, rfl⟩ := Int.eq_ofNat_of_zero_le (show 0 ≤ n by omega)
      have e0 : ((a : Int) == 0) = false := by simpa using hz
      have hneg : ¬ (a : Int) < 0 := by omega
      have hr : Hid (itoaT (a : Int) = ⟨(preD a).toArray⟩) := Lib.hid (by unfold itoaT Lib.itoa preD; rw [if_neg (by omega), if_neg (by omega)]; rfl)
      clear hz hp
      go_enter Tryd.func41, Tryd.ntmps41
      go_wp2_with fail
      go_loopg [3, 4, 5] a (fun g ov mv dv wx => ∃ (T : ByteArray), ov = .string T ∧ T.size ≤ 19 ∧ mv = .int .i64 (g : Int) ∧ g ≤ a ∧ Aside (preD g ++ T.data.toList = preD a ∧ Below w.heap.size w wx))
      case atStart => exact ⟨⟨#[]⟩, rfl, by decide, rfl, Nat.le_refl _, vaside ⟨by simp, Below.refl _ _⟩⟩
      case round =>
        obtain ⟨T, rfl, hT, rfl, hga, HA⟩ := hrel
        have HX := Lib.hid HA.out
        clear HA
        by_cases hk : gk = 0
        · subst hk
          have ho : T.data.toList = preD a := by have := HX.out.1; simpa [preD] using this
          have ho := Lib.hid (show T = ⟨(preD a).toArray⟩ from ba_ext (by simpa using ho))
          have hb := Lib.hid HX.out.2
          clear HX
          go_wp2_with fail
          go_ret
          exact ⟨by rw [hr.out, ← ho.out]; rfl, hb.out⟩
        · have ek : ((gk : Int) != 0) = true := by simpa using hk
          have hs := preD_step hk
          have HS := Lib.hid hs
          have hm := tmod_pos gk
          have hd := tdiv_pos gk
          have hml : gk % 10 < 10 := Nat.mod_lt _ (by omega)
          have hdl : gk / 10 < gk := by omega
          have hx := fun wx => one_text (48 + gk % 10) wx
          generalize gk % 10 = d at *
          obtain ⟨g', hg'⟩ : ∃ g', gk / 10 = g' := ⟨_, rfl⟩
          rw [hg'] at hd hdl HS
          have hx : ∀ wx : World, _ := hx
          obtain ⟨D, hD⟩ : ∃ D, 48 + d = D := ⟨_, rfl⟩
          have hDI : 48 + (d : Int) = (D : Int) := by omega
          rw [hD] at hx HS
          have hXs : (⟨#[UInt8.ofNat D]⟩ : ByteArray).size = 1 := rfl
          have HXd := Lib.hid (show (⟨#[UInt8.ofNat D]⟩ : ByteArray).data.toList = [UInt8.ofNat D] from rfl)
          generalize (⟨#[UInt8.ofNat D]⟩ : ByteArray) = X at *
          have HSZ : Hid (preD g' ++ (X ++ T).data.toList = preD a) := Lib.hid (by have := HX.out.1; rw [HS.out] at this; rw [ByteArray.data_append, Array.toList_append, HXd.out]; simpa using this)
          have hnT : (X ++ T).size ≤ 19 := by
            have h1 := congrArg List.length HSZ.out
            have h2 := pre_len19 (u := a) (by omega)
            rw [List.length_append, len_data] at h1
            omega
          have hnT := Lib.hid hnT
          have u1 : IntKind.u8.wrap (D : Int) = (D : Int) := by rw [IntKind.wrap_u8]; omega
          have hnl : ¬ (d : Int) < 0 := by omega
          clear hs hg' hk hD
          go_wp2_with fail
          go_roundg g'
          case measure => omega
          case rel => exact ⟨X ++ T, rfl, hnT.out, rfl, by omega, vaside ⟨HSZ.out, HX.out.2.alloc HX.out.2.size _⟩⟩
    · obtain ⟨a, ha⟩ := Int.eq_ofNat_of_zero_le (show 0 ≤ -n by omega)
      obtain rfl : n = -(a : Int) := by omega
      have e0 : (-(a : Int) == 0) = false := by simpa using hz
      have hneg : -(a : Int) < 0 := by omega
      have hr : Hid (itoaT (-(a : Int)) = ⟨(45 :: preD a).toArray⟩) := Lib.hid (by
        unfold itoaT Lib.itoa preD
        rw [if_pos hneg, if_neg (by omega), show (-(a : Int)).natAbs = a by omega])
      have HCM := Lib.hid (cat_minus (preD a))
      clear hz hp ha
      go_enter Tryd.func41, Tryd.ntmps41
      go_wp2_with fail
      go_loopg [3, 4, 5] a (fun g ov mv dv wx => ∃ (T : ByteArray), ov = .string T ∧ T.size ≤ 19 ∧ mv = .int .i64 (-(g : Int)) ∧ g ≤ a ∧ Aside (preD g ++ T.data.toList = preD a ∧ Below w.heap.size w wx))
      case atStart => exact ⟨⟨#[]⟩, rfl, by decide, rfl, Nat.le_refl _, vaside ⟨by simp, Below.refl _ _⟩⟩
      case round =>
        obtain ⟨T, rfl, hT, rfl, hga, HA⟩ := hrel
        have HX := Lib.hid HA.out
        clear HA
        by_cases hk : gk = 0
        · subst hk
          have ho : T.data.toList = preD a := by have := HX.out.1; simpa [preD] using this
          have ho := Lib.hid (show T = ⟨(preD a).toArray⟩ from ba_ext (by simpa using ho))
          have hb := Lib.hid HX.out.2
          clear HX
          go_wp2_with fail
          go_ret
          exact ⟨by rw [hr.out, ← HCM.out, ← ho.out]; rfl, hb.out⟩
        · have ek : (-(gk : Int) != 0) = true := by simpa using hk
          have hs := preD_step hk
          have HS := Lib.hid hs
          have hm := tmod_neg gk
          have hd := tdiv_neg gk
          have hml : gk % 10 < 10 := Nat.mod_lt _ (by omega)
          have hdl : gk / 10 < gk := by omega
          have hx := fun wx => one_text (48 + gk % 10) wx
          generalize gk % 10 = d at *
          obtain ⟨g', hg'⟩ : ∃ g', gk / 10 = g' := ⟨_, rfl⟩
          rw [hg'] at hd hdl HS
          obtain ⟨D, hD⟩ : ∃ D, 48 + d = D := ⟨_, rfl⟩
          have hDI : 48 + (d : Int) = (D : Int) := by omega
          rw [hD] at hx HS
          have hXs : (⟨#[UInt8.ofNat D]⟩ : ByteArray).size = 1 := rfl
          have HXd := Lib.hid (show (⟨#[UInt8.ofNat D]⟩ : ByteArray).data.toList = [UInt8.ofNat D] from rfl)
          generalize (⟨#[UInt8.ofNat D]⟩ : ByteArray) = X at *
          have HSZ : Hid (preD g' ++ (X ++ T).data.toList = preD a) := Lib.hid (by have := HX.out.1; rw [HS.out] at this; rw [ByteArray.data_append, Array.toList_append, HXd.out]; simpa using this)
          have hnT : (X ++ T).size ≤ 19 := by
            have h1 := congrArg List.length HSZ.out
            have h2 := pre_len19 (u := a) (by omega)
            rw [List.length_append, len_data] at h1
            omega
          have hnT := Lib.hid hnT
          have u1 : IntKind.u8.wrap (D : Int) = (D : Int) := by rw [IntKind.wrap_u8]; omega
          clear hs hg' hk
          by_cases hd0 : d = 0
          · have hnl : ¬ -(d : Int) < 0 := by omega
            have hD2 : 48 + -(d : Int) = (D : Int) := by omega
            clear hd0 hDI hD
            go_wp2_with fail
            go_roundg g'
            case measure => omega
            case rel => exact ⟨X ++ T, rfl, hnT.out, rfl, by omega, vaside ⟨HSZ.out, HX.out.2.alloc HX.out.2.size _⟩⟩
          · have hnl : -(d : Int) < 0 := by omega
            clear hd0 hD
            go_wp2_with fail
            go_roundg g'
            case measure => omega
            case rel => exact ⟨X ++ T, rfl, hnT.out, rfl, by omega, vaside ⟨HSZ.out, HX.out.2.alloc HX.out.2.size _⟩⟩
end Go.Proofs.YtnmidlbhkjcimaaDoor
