/- The walks of strings.IndexRune and strings.IndexAny where the text holds other than plain bytes, for two plain signs. -/
import Derived.Test.YtfinboplkjijhaaGreatDoorTUnit
import Derived.Laws.RangeString
import Derived.Laws.RangeAny
import Derived.Laws.Cover4
namespace Go.Proofs.YtfinboplkjijhaaGreatDoor
open Go.RowKit

def SomeBool (e : Ending) : Prop := ∃ b, e = .returned (.bool b)
theorem valid_some (r : Int) (h0 : 0 ≤ r) (w : World) : Calls Tryz.prog 91 #[.int .i32 r] w fun e w' => SomeBool e ∧ w = w' := by
  go_enter Tryz.func91, Tryz.ntmps91
  go_wp2
  all_goals go_ret
  all_goals (refine ⟨?_, rfl⟩; exact ⟨_, rfl⟩)
theorem below_iter (w : World) (s : ByteArray) (i : Nat) : Below w.heap.size w (w.iter s i) := (Below.refl _ _).alloc (Nat.le_refl _) _
theorem enc_size {r : Int} (h : 128 ≤ r) : 2 ≤ (Utf8.encode r).size ∧ (Utf8.encode r).size ≤ 4 := by
  have hc : 128 ≤ (if Utf8.valid r then r.toNat else Utf8.runeError) := by
    split
    · omega
    · simp [Utf8.runeError]
  refine ⟨?_, encode_size_le r⟩
  unfold Utf8.encode
  simp only
  generalize (if Utf8.valid r = true then r.toNat else Utf8.runeError) = c at *
  rw [if_neg (by omega)]
  split
  · exact Nat.le_refl 2
  · split
    · exact Nat.le_succ 2
    · exact Nat.le_succ_of_le (Nat.le_succ 2)
theorem enc_one {r : Int} (h : 128 ≤ r) (h2 : (Utf8.encode r).size = 2) : 128 ≤ ((Utf8.encode r)[1]'(by omega)).toNat := by
  have hc : 128 ≤ (if Utf8.valid r then r.toNat else Utf8.runeError) := by
    split
    · omega
    · simp [Utf8.runeError]
  have e : Utf8.encode r = ⟨#[UInt8.ofNat (0xC0 + (if Utf8.valid r then r.toNat else Utf8.runeError) / 64), UInt8.ofNat (0x80 + (if Utf8.valid r then r.toNat else Utf8.runeError) % 64)]⟩ := by
    unfold Utf8.encode at h2 ⊢
    simp only at h2 ⊢
    generalize (if Utf8.valid r = true then r.toNat else Utf8.runeError) = c at *
    rw [if_neg (by omega)] at h2 ⊢
    split at h2
    · rename_i hl; rw [if_pos hl]
    · split at h2
      · exact absurd h2 (by show ¬ (3 = 2); decide)
      · exact absurd h2 (by show ¬ (4 = 2); decide)
  generalize (if Utf8.valid r = true then r.toNat else Utf8.runeError) = c at *
  simp only [e]
  show 128 ≤ (UInt8.ofNat (0x80 + c % 64)).toNat
  rw [UInt8.toNat_ofNat']
  omega

theorem indexByte_end (c : UInt8) (w : World) : Calls Tryz.prog 41 #[.string ByteArray.empty, .int .u8 (c.toNat : Int)] w fun e w' => e = .returned (.int .i64 (-1)) ∧ w' = w :=
  indexByte_any ByteArray.empty (c.toNat : Int) w

theorem slice_two (w : World) : (Instr.slice 9 (.string ⟨#[10, 13]⟩) (some (.int .i64 2)) none none).run Tryz.prog w = .ok (.string ((⟨#[10, 13]⟩ : ByteArray).extract 2 2)) w := by kernel_rfl
set_option maxRecDepth 100000 in
set_option maxHeartbeats 1000000 in
theorem indexRune_high (q : ByteArray) (hq3 : q = ⟨#[10, 13]⟩) (hq2 : q.size = 2) (hq : ∀ i (h : i < q.size), q[i].toNat < 128) (r : Int) (h0 : 128 ≤ r) (w : World) : Calls Tryz.prog 72 #[.string q, .int .i32 r] w fun e w' => e = .returned (.int .i64 (-1)) ∧ Below w.heap.size w w' := by
  have hsl : ∀ w, (Instr.slice 9 (.string q) (some (.int .i64 2)) none none).run Tryz.prog w = .ok (.string (q.extract 2 2)) w := by subst hq3; exact slice_two
  clear hq3
  have hr0 : (0 : Int) ≤ r := by omega
  have hr1 : ¬ r < 128 := by omega
  cases hE : (r == 65533)
  · have HV := Lib.hid (valid_some r hr0 w)
    have he := enc_size h0
    obtain ⟨E, hEE⟩ : ∃ E, Utf8.encode r = E := ⟨_, rfl⟩
    rw [hEE] at he
    obtain ⟨he0, he1⟩ := he
    go_enter Tryz.func72, Tryz.ntmps72
    go_wp2_with fail
    refine HV.out.mono ?_
    rintro e w1 ⟨⟨b, rfl⟩, rfl⟩
    cases b
    · go_wp2_with fail
      go_ret
      exact ⟨rfl, Below.refl _ _⟩
    · go_wp2_with fail
      go_wp2_with fail
      go_step3
      go_wp2_with fail
      refine wp_loop_once ?_
      by_cases hs2 : E.size = 2
      · have e1 : (E.size : Int) - 1 = 1 := by omega
        have h1q : 1 < q.size := by omega
        have h1E : 1 < E.size := by omega
        have hqs : (1 : Int) < (q.size : Int) := by omega
        have hes : (1 : Int) < (E.size : Int) := by omega
        have hne : ((q[1].toNat : Int) != (E[1].toNat : Int)) = true := by
          have h1 := hq 1 h1q
          have h2 : 128 ≤ E[1].toNat := by
            subst hEE
            exact enc_one h0 hs2
          simp
          omega
        go_wp2_with fail
        go_step3
        go_wp2_with fail
        go_quiet (fail)
        go_wp2_with fail
        have hw2 : IntKind.i64.wrap 2 = 2 := by decide
        go_quiet ((go_at_call 41; exact (indexByte_end E[1] _).mono fun _ _ h => ⟨h.1, _, h.2⟩))
        go_wp2_with fail
        rw [Exit.noGoto_ret]
        simp +zetaDelta only [Exit.inBlock, Exit.then, Exit.noGoto]
        refine bodyPost_ret (results_tmp rfl _ _ _) rfl ?_
        exact ⟨rfl, bdraw (Below.refl _ _) _⟩
      · have e1 : ¬ (E.size : Int) - 1 < (q.size : Int) := by omega
        go_wp2_with fail
        go_ret
        exact ⟨rfl, Below.refl _ _⟩
  · go_enter Tryz.func72, Tryz.ntmps72
    go_wp2_with fail
    go_loopg [5, 6] 2 (fun g _ _ wx => ∃ i : Nat, i + g = 2 ∧ wx = w.iter q i)
    case atStart => exact ⟨0, by omega, rfl⟩
    case round =>
      obtain ⟨i, hi, rfl⟩ := hrel
      cases gk with
      | zero =>
        obtain rfl : i = 2 := by omega
        have hnx := fun ty => run_next_end (P := Tryz.prog) w q 2 ty (by omega)
        go_wp2
        go_ret
        exact ⟨rfl, below_iter _ _ _⟩
      | succ g =>
        have hi2 : i < q.size := by omega
        have hlt := hq i hi2
        have hnx := fun ty => run_next_ascii (P := Tryz.prog) w q i ty hi2 hlt
        have hne : ((q[i].toNat : Int) == 65533) = false := by simp; omega
        go_wp2
        go_roundg g
        case measure => omega
        case rel => exact ⟨i + 1, by omega, rfl⟩
end Go.Proofs.YtfinboplkjijhaaGreatDoor
