/- The walk of the law TokenUnits. -/
import Derived.Test.YtfinboplkjijhaaGreatDoorLawNumbers
import Derived.Deep.DeepCutAuto
namespace Go.Proofs.YtfinboplkjijhaaGreatDoor
open Go.RowKit

def hexD (x : Int) : UInt8 := if x < 10 then (48 + x).toNat.toUInt8 else (87 + x).toNat.toUInt8
def hexText (u : Int) : List UInt8 := [92, 117, hexD (u / 4096 % 16), hexD (u / 256 % 16), hexD (u / 16 % 16), hexD (u % 16)]
theorem hexD_all : ∀ x : Fin 16, hexB (hexD (x.val : Int)) = true ∧ hexI (hexD (x.val : Int)) = (x.val : Int) ∧ ascB (hexD (x.val : Int)) = true := by decide +kernel
theorem hexD_ok {x : Int} (h0 : 0 ≤ x) (h1 : x < 16) : hexB (hexD x) = true ∧ hexI (hexD x) = x ∧ ascB (hexD x) = true := by
  obtain ⟨n, rfl⟩ := Int.eq_ofNat_of_zero_le h0
  exact hexD_all ⟨n, by omega⟩
theorem unit_text {u : Int} (h0 : 0 ≤ u) (h1 : u ≤ 65535) (r : List UInt8) : unitAt (hexText u ++ r) = some u := by
  obtain ⟨a1, a2, _⟩ := hexD_ok (x := u / 4096 % 16) (by omega) (by omega)
  obtain ⟨b1, b2, _⟩ := hexD_ok (x := u / 256 % 16) (by omega) (by omega)
  obtain ⟨c1, c2, _⟩ := hexD_ok (x := u / 16 % 16) (by omega) (by omega)
  obtain ⟨d1, d2, _⟩ := hexD_ok (x := u % 16) (by omega) (by omega)
  show unitAt (92 :: 117 :: _ :: _ :: _ :: _ :: r) = _
  rw [unit_pu]
  simp only [pu, a1, b1, c1, d1, a2, b2, c2, d2, if_true, Option.some.injEq]
  omega
theorem lineU_text : ∀ (zs us : List Int), (∀ z ∈ zs, 0 ≤ z ∧ z ≤ 65535) → lineU us (zs.flatMap hexText ++ [34]) = (joinL (us ++ zs)).map fun x => (x, 6 * zs.length + 1) := by
  intro zs
  induction zs with
  | nil =>
    intro us _
    rw [lineU_none (by rfl), List.append_nil]
    cases joinL us with
    | none => rfl
    | some x => simp [lineL_cons]
  | cons z zs ih =>
    intro us h
    have hz := h z (by simp)
    rw [List.flatMap_cons, List.append_assoc, lineU_unit (unit_text hz.1 hz.2 _)]
    have e : (hexText z ++ (zs.flatMap hexText ++ [34])).drop 6 = zs.flatMap hexText ++ [34] := rfl
    rw [e, ih (us ++ [z]) (fun x hx => h x (by simp [hx])), List.append_assoc, List.singleton_append]
    cases joinL (us ++ z :: zs) with
    | none => rfl
    | some x => simp; omega
theorem tok_quote (t : List UInt8) : gapL (34 :: t) = 0 ∧ tokL (34 :: t) = (quoteL (34 :: t)).map fun q => ((5, q.1), q.2) := by
  have g : gapL (34 :: t) = 0 := by simp [gapL, isGap, pre_ne (show (34 : UInt8) ≠ 239 by decide)]
  have m : markN (34 :: t) = 0 := by simp [markN, pre_ne (show (34 : UInt8) ≠ 46 by decide), show isMark 34 = false by decide]
  have w : wordN (34 :: t) = 0 := by simp [wordN, show letU 34 = false by decide]
  have n : (numberL (34 :: t)).1 = 0 := by
    by_cases h : (numberL (34 :: t)).1 = 0
    · exact h
    · obtain ⟨_, _, h0⟩ := number_cases h
      obtain ⟨b, t', e, hb⟩ := numeralL_head h0
      cases e
      exact absurd hb (by decide)
  refine ⟨g, ?_⟩
  unfold tokL
  rw [if_neg (by rw [m]; simp), if_neg (by rw [w]; simp), if_neg (by rw [n]; simp)]
theorem text_head (zs : List Int) : zs.flatMap hexText ++ [34] = [34] ∨ ∃ r, zs.flatMap hexText ++ [34] = 92 :: r := by
  cases zs with
  | nil => exact .inl rfl
  | cons z zs => exact .inr ⟨_, rfl⟩
theorem units_quote {zs : List Int} (h : ∀ z ∈ zs, 0 ≤ z ∧ z ≤ 65535) : quoteL (34 :: (zs.flatMap hexText ++ [34])) = (joinL zs).map fun x => (x, 1 + (6 * zs.length + 1)) := by
  have hp : pre [34, 34, 34] (34 :: (zs.flatMap hexText ++ [34])) = false := by
    rcases text_head zs with e | ⟨r, e⟩ <;> rw [e]
    · rfl
    · rfl
  simp only [quoteL, hp]
  have hl := lineU_nil (zs.flatMap hexText ++ [34])
  rw [lineU_text zs [] h, List.nil_append] at hl
  simp only [Bool.false_eq_true, if_false, show ((34 : UInt8) == 34) = true from rfl, if_true]
  rw [← hl]
  cases joinL zs with
  | none => rfl
  | some x => rfl
theorem text_len : ∀ zs : List Int, (zs.flatMap hexText).length = 6 * zs.length := by
  intro zs
  induction zs with
  | nil => rfl
  | cons z zs ih => rw [List.flatMap_cons, List.length_append, ih, List.length_cons]; show 6 + _ = _; omega
theorem units_read {zs : List Int} (h : ∀ z ∈ zs, 0 ≤ z ∧ z ≤ 65535) : readL (34 :: (zs.flatMap hexText ++ [34])) = (joinL zs).map fun x => [(5, x)] := by
  obtain ⟨g, t⟩ := tok_quote (zs.flatMap hexText ++ [34])
  rw [units_quote h] at t
  cases hj : joinL zs with
  | none =>
    rw [hj] at t
    rw [readL_none g (by simp) t]
    rfl
  | some x =>
    rw [hj] at t
    rw [readL_tok g (by simp) t]
    have : (34 :: (zs.flatMap hexText ++ [34])).drop (1 + (6 * zs.length + 1)) = [] := List.drop_eq_nil_of_le (by rw [List.length_cons, List.length_append, text_len]; simp; omega)
    simp only
    rw [this, readL_nil]
    rfl
theorem text_asc {zs : List Int} (h : ∀ z ∈ zs, 0 ≤ z ∧ z ≤ 65535) : (zs.flatMap hexText).all ascB = true := by
  rw [List.all_flatMap, List.all_eq_true]
  intro z hz
  have hz := h z hz
  have a := (hexD_ok (x := z / 4096 % 16) (by omega) (by omega)).2.2
  have b := (hexD_ok (x := z / 256 % 16) (by omega) (by omega)).2.2
  have c := (hexD_ok (x := z / 16 % 16) (by omega) (by omega)).2.2
  have d := (hexD_ok (x := z % 16) (by omega) (by omega)).2.2
  simp only [hexText, List.all_cons, List.all_nil, a, b, c, d]
  decide
theorem units_source {zs : List Int} (h : ∀ z ∈ zs, 0 ≤ z ∧ z ≤ 65535) : sourceB (34 :: (zs.flatMap hexText ++ [34])) = true := source_ascii (by
  rw [List.all_cons, List.all_append, text_asc h]
  decide)
/-- What Read answers of units that are written. -/
theorem units_readS {zs : List Int} (h : ∀ z ∈ zs, 0 ≤ z ∧ z ≤ 65535) (hl : zs.length ≤ 300) : readS (34 :: (zs.flatMap hexText ++ [34])) = (match joinL zs with | some x => ([(5, x)], 0) | none => ([], 2)) := by
  have hr := units_read h
  have hlen : (34 :: (zs.flatMap hexText ++ [34])).length ≤ 8192 := by rw [List.length_cons, List.length_append, text_len]; simp; omega
  cases hj : joinL zs with
  | none => rw [hj] at hr; exact readS_none hlen hr
  | some x => rw [hj] at hr; exact readS_some hlen (units_source h) hr
abbrev digC : ByteArray := ⟨#[48, 49, 50, 51, 52, 53, 54, 55, 56, 57, 97, 98, 99, 100, 101, 102, 65, 66, 67, 68, 69, 70]⟩
theorem dig_slices {d : Nat} (h : d < 16) : (∀ w, (Instr.slice 9 (.string digC) (some (.int .i64 (d : Int))) none none).run Tryz.prog w = .ok (.string (digC.extract d 22)) w) ∧ (∀ w, (Instr.slice 9 (.string (digC.extract d 22)) none (some (.int .i64 1)) none).run Tryz.prog w = .ok (.string ⟨#[hexD (d : Int)]⟩) w) := by
  rcases (by omega : d = 0 ∨ d = 1 ∨ d = 2 ∨ d = 3 ∨ d = 4 ∨ d = 5 ∨ d = 6 ∨ d = 7 ∨ d = 8 ∨ d = 9 ∨ d = 10 ∨ d = 11 ∨ d = 12 ∨ d = 13 ∨ d = 14 ∨ d = 15) with rfl | rfl | rfl | rfl | rfl | rfl | rfl | rfl | rfl | rfl | rfl | rfl | rfl | rfl | rfl | rfl
  all_goals exact ⟨fun w => by kernel_rfl, fun w => by kernel_rfl⟩
theorem cat_two (s t : ByteArray) : (s ++ t).data.toList = s.data.toList ++ t.data.toList := by simp
theorem and_low4 {x : Int} (h0 : 0 ≤ x) (h1 : x < 9223372036854775808) : bits .and .i64 x 15 = x % 16 := by
  obtain ⟨a, rfl⟩ := Int.eq_ofNat_of_zero_le h0
  show IntKind.i64.wrap ((BitVec.ofInt 64 (a : Int) &&& BitVec.ofInt 64 ((15 : Nat) : Int)).toNat : Int) = _
  rw [BitVec.toNat_and, ofInt_i64 a (by omega), ofInt_i64 15 (by omega), show (15 : Nat) = 2 ^ 4 - 1 from rfl, Nat.and_two_pow_sub_one_eq_mod, IntKind.wrap_i64]
  omega
theorem take_text {zs : List Int} {i : Nat} {z : Int} (h : zs[i]? = some z) : (zs.take (i + 1)).flatMap hexText = (zs.take i).flatMap hexText ++ hexText z := by
  rw [List.take_add_one, h]
  simp [List.flatMap_append]
theorem take_range {zs : List Int} {i : Nat} {z : Int} (h : zs[i]? = some z) (hr : ∀ x ∈ zs.take i, 0 ≤ x ∧ x ≤ 65535) (h0 : 0 ≤ z) (h1 : z ≤ 65535) : ∀ x ∈ zs.take (i + 1), 0 ≤ x ∧ x ≤ 65535 := by
  intro x hx
  rw [List.take_add_one, h] at hx
  rcases List.mem_append.1 hx with hx | hx
  · exact hr x hx
  · simp at hx
    subst hx
    exact ⟨h0, h1⟩
namespace LUnits

end LUnits
end Go.Proofs.YtfinboplkjijhaaGreatDoor
