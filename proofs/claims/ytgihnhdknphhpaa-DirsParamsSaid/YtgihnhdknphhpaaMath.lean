/- Plain facts on bytes, code points, names and UTF-16 units, of no program: what the walks of the package letters and of the document's own answer come to. -/
import Derived.Lib.Strings
namespace Go.Proofs.Ytgihnhdknphhpaa

def letB (c : Int) : Bool := decide ((97 ≤ c ∧ c ≤ 122) ∨ (65 ≤ c ∧ c ≤ 90) ∨ c = 95)
def digB (c : Int) : Bool := decide (48 ≤ c ∧ c ≤ 57)
def halfB (c : Int) : Bool := decide (55296 ≤ c ∧ c ≤ 57343)
def pairB (a b : Int) : Bool := decide (55296 ≤ a ∧ a < 56320 ∧ 56320 ≤ b ∧ b ≤ 57343)

/-- Are all of them letters, signs of the low line or digits? -/
def tailB (l : List UInt8) : Bool := l.all fun b => letB (b.toNat : Int) || digB (b.toNat : Int)
/-- Is it a name? -/
def nameB : List UInt8 → Bool
  | [] => false
  | b :: t => letB (b.toNat : Int) && tailB t

theorem tailB_append (l m : List UInt8) : tailB (l ++ m) = (tailB l && tailB m) := by simp [tailB]
theorem nameB_append (l m : List UInt8) (h : l ≠ []) : nameB (l ++ m) = (nameB l && tailB m) := by
  cases l with
  | nil => exact absurd rfl h
  | cons b t => simp [nameB, tailB_append, Bool.and_assoc]
theorem tailB_of_nameB {l : List UInt8} (h : nameB l = true) : tailB l = true := by
  cases l with
  | nil => cases h
  | cons b t =>
    simp only [nameB, Bool.and_eq_true] at h
    have h2 := h.2
    simp only [tailB] at h2
    simp [tailB, h.1, h2]
theorem take_snoc (s : ByteArray) (k : Nat) (h : k < s.size) : s.data.toList.take (k + 1) = s.data.toList.take k ++ [s[k]] := by
  rw [List.take_succ_eq_append_getElem (by simpa using h)]; rfl
/-- One byte more of a text of which all so far is a name's. -/
def nameTo (s : ByteArray) (k : Nat) : Prop := k = 0 ∨ nameB (s.data.toList.take k) = true
theorem take_ne (s : ByteArray) (k : Nat) (h0 : k ≠ 0) (h : k < s.size) : s.data.toList.take k ≠ [] := by
  have : s.data.toList.length = s.size := Array.length_toList
  intro e
  have := congrArg List.length e
  simp only [List.length_take, List.length_nil] at this
  omega
theorem nameTo_letter {s : ByteArray} {k : Nat} (h : k < s.size) (ht : nameTo s k) (hl : letB (s[k].toNat : Int) = true) : nameTo s (k + 1) := by
  refine .inr ?_
  rw [take_snoc s k h]
  rcases ht with h0 | ht
  · subst h0; simp [nameB, tailB, hl]
  · rw [nameB_append _ _ (by intro e; rw [e] at ht; cases ht), ht]; simp [tailB, hl]
theorem nameTo_digit {s : ByteArray} {k : Nat} (h : k < s.size) (h0 : k ≠ 0) (ht : nameTo s k) (hl : digB (s[k].toNat : Int) = true) : nameTo s (k + 1) := by
  refine .inr ?_
  rw [take_snoc s k h]
  rcases ht with h0' | ht
  · exact absurd h0' h0
  · rw [nameB_append _ _ (by intro e; rw [e] at ht; cases ht), ht]; simp [tailB, hl]
theorem nameB_split (s : ByteArray) (k : Nat) (h : k < s.size) : s.data.toList = s.data.toList.take k ++ s[k] :: s.data.toList.drop (k + 1) := by
  have e := (List.take_append_drop (k + 1) s.data.toList).symm
  rw [take_snoc s k h, List.append_assoc] at e
  exact e
theorem name_stop0 {s : ByteArray} (h : 0 < s.size) (hl : letB (s[0].toNat : Int) = false) : nameB s.data.toList = false := by
  rw [nameB_split s 0 h]; simp [nameB, hl]
theorem name_stop {s : ByteArray} {k : Nat} (h : k < s.size) (h0 : k ≠ 0) (hl : letB (s[k].toNat : Int) = false) (hd : digB (s[k].toNat : Int) = false) : nameB s.data.toList = false := by
  rw [nameB_split s k h, nameB_append _ _ (take_ne s k h0 h)]
  simp [tailB, hl, hd]
theorem name_done {s : ByteArray} (ht : nameTo s s.size) : nameB s.data.toList = !s.toList.isEmpty := by
  have hl : s.data.toList.length = s.size := Array.length_toList
  have e : s.toList = s.data.toList := Lib.toList_data s
  rw [e]
  rcases ht with h0 | ht
  · have : s.data.toList = [] := List.eq_nil_of_length_eq_zero (by omega)
    rw [this]; rfl
  · rw [← hl, List.take_length] at ht
    rw [ht]
    cases h : s.data.toList with
    | nil => rw [h] at ht; cases ht
    | cons _ _ => rfl
end Go.Proofs.Ytgihnhdknphhpaa
