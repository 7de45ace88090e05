/- Plain facts on UTF-8, of no program: which code point is encoded at the head of a list of bytes, and the arithmetic of the shapes' bits. -/
import Derived.Test.YtcdcfhplkimecaaDoorMath
import Derived.Laws.BitsAllLaws
import Derived.Laws.BitsLemmas
import Derived.Laws.Entries
namespace Go.Proofs.YtcdcfhplkimecaaDoor

/-- Byte k of a list, as a number; 0 behind its end. -/
def byt (l : List UInt8) (k : Nat) : Int := ((l.getD k 0).toNat : Int)
def contB (b : Int) : Bool := decide (128 ≤ b ∧ b ≤ 191)
/-- The first byte's bits that are fixed, the bits by which they are told, the least code point, and how many first bytes there are, of the shape of k + 1 bytes. -/
def lead : Nat → Int | 0 => 0 | 1 => 192 | 2 => 224 | _ => 240
def mask : Nat → Int | 0 => 128 | 1 => 224 | 2 => 240 | _ => 248
def least : Nat → Int | 0 => 0 | 1 => 128 | 2 => 2048 | _ => 65536
def wide : Nat → Int | 0 => 128 | 1 => 32 | 2 => 16 | _ => 8
/-- The number that the first byte's rest and the bytes 1 to k - 1 are together. -/
def acc (l : List UInt8) (c : Int) : Nat → Int
  | 0 => c
  | 1 => c
  | k + 2 => acc l c (k + 1) * 64 + (byt l (k + 1) - 128)
/-- Are the bytes 1 to k - 1 ones that go on? -/
def contTo (l : List UInt8) : Nat → Bool
  | 0 => true
  | 1 => true
  | k + 2 => contTo l (k + 1) && contB (byt l (k + 1))
def leads (k : Nat) (a : Int) : Prop := lead k ≤ a ∧ a < lead k + wide k
instance (k : Nat) (a : Int) : Decidable (leads k a) := by unfold leads; infer_instance
def fair (k : Nat) (c : Int) : Prop := least k ≤ c ∧ c ≤ 1114111 ∧ halfB c = false
instance (k : Nat) (c : Int) : Decidable (fair k c) := by unfold fair; infer_instance
/-- The code point of k + 1 bytes at the head, if one is there. -/
def decK (k : Nat) (l : List UInt8) : Option (Int × Int) :=
  if k < l.length ∧ leads k (byt l 0) ∧ contTo l (k + 1) = true ∧ fair k (acc l (byt l 0 - lead k) (k + 1)) then some (acc l (byt l 0 - lead k) (k + 1), (k : Int) + 1) else none
/-- The code point at the head, and its number of bytes; 0 and 0 if there is none. -/
def dec (l : List UInt8) : Int × Int :=
  match decK 0 l with
  | some p => p
  | none => match decK 1 l with
    | some p => p
    | none => match decK 2 l with
      | some p => p
      | none => match decK 3 l with
        | some p => p
        | none => (0, 0)
/-- The shapes of fewer bytes than k + 1 have no code point. -/
def noneTo (l : List UInt8) (k : Nat) : Prop := ∀ j, j < k → decK j l = none
theorem noneTo_succ {l : List UInt8} {k : Nat} (h : noneTo l k) (hk : decK k l = none) : noneTo l (k + 1) := fun j hj => by
  rcases Nat.lt_or_ge j k with h' | h'
  · exact h j h'
  · obtain rfl : j = k := by omega
    exact hk
theorem dec_none {l : List UInt8} (h : noneTo l 4) : dec l = (0, 0) := by
  simp [dec, h 0 (by omega), h 1 (by omega), h 2 (by omega), h 3 (by omega)]
theorem dec_some {l : List UInt8} {k : Nat} {p : Int × Int} (hk : k < 4) (h : noneTo l k) (hp : decK k l = some p) : dec l = p := by
  match k, hk with
  | 0, _ => simp [dec, hp]
  | 1, _ => simp [dec, h 0 (by omega), hp]
  | 2, _ => simp [dec, h 0 (by omega), h 1 (by omega), hp]
  | 3, _ => simp [dec, h 0 (by omega), h 1 (by omega), h 2 (by omega), hp]

theorem byt_lt (l : List UInt8) (k : Nat) : 0 ≤ byt l k ∧ byt l k < 256 := by
  have := (l.getD k 0).toNat_lt
  unfold byt; omega
theorem byt_drop (s : ByteArray) (i k : Nat) (h : i + k < s.size) : (s[i + k].toNat : Int) = byt (s.data.toList.drop i) k := by
  unfold byt
  have hl : s.data.toList.length = s.size := Array.length_toList
  rw [List.getD_eq_getElem?_getD, List.getElem?_drop, List.getElem?_eq_getElem (by omega)]
  rfl
theorem acc_bd (l : List UInt8) (c : Int) (h0 : 0 ≤ c) (h1 : c < 128) : ∀ k, contTo l k = true → 0 ≤ acc l c k ∧ acc l c k < 128 * 64 ^ (k - 1) := by
  intro k
  induction k with
  | zero => intro _; exact ⟨h0, by simpa [acc] using h1⟩
  | succ k ih =>
    cases k with
    | zero => intro _; exact ⟨h0, by simpa [acc] using h1⟩
    | succ k =>
      intro h
      simp only [contTo, Bool.and_eq_true] at h
      obtain ⟨a, b⟩ := ih h.1
      have hc := h.2
      simp only [contB, decide_eq_true_eq] at hc
      simp only [acc]
      refine ⟨by omega, ?_⟩
      rw [show k + 1 + 1 - 1 = (k + 1 - 1) + 1 from by omega, Int.pow_succ]
      omega

theorem decK_leads {l : List UInt8} {k : Nat} (h : ¬ leads k (byt l 0)) : decK k l = none := by
  unfold decK; rw [if_neg (fun x => h x.2.1)]
theorem decK_short {l : List UInt8} {k : Nat} (h : ¬ k < l.length) : decK k l = none := by
  unfold decK; rw [if_neg (fun x => h x.1)]
theorem decK_fair {l : List UInt8} {k : Nat} (h : ¬ fair k (acc l (byt l 0 - lead k) (k + 1))) : decK k l = none := by
  unfold decK; rw [if_neg (fun x => h x.2.2.2)]
theorem contTo_mono {l : List UInt8} : ∀ (k j : Nat), j ≤ k → contTo l k = true → contTo l j = true := by
  intro k
  induction k with
  | zero => intro j hj h; obtain rfl : j = 0 := by omega
            exact h
  | succ k ih =>
    intro j hj h
    rcases Nat.lt_or_ge j (k + 1) with h' | h'
    · refine ih j (by omega) ?_
      cases k with
      | zero => rfl
      | succ k => simp only [contTo, Bool.and_eq_true] at h; exact h.1
    · obtain rfl : j = k + 1 := by omega
      exact h
theorem decK_cont {l : List UInt8} {k j : Nat} (h0 : 1 ≤ j) (hj : j ≤ k) (h : ¬ contB (byt l j) = true) : decK k l = none := by
  unfold decK; rw [if_neg (fun x => h ?_)]
  have := contTo_mono (k + 1) (j + 1) (by omega) x.2.2.1
  match j, h0 with
  | j + 1, _ => simp only [contTo, Bool.and_eq_true] at this; exact this.2
theorem decK_yes {l : List UInt8} {k : Nat} (h1 : k < l.length) (h2 : leads k (byt l 0)) (h3 : contTo l (k + 1) = true) (h4 : fair k (acc l (byt l 0 - lead k) (k + 1))) :
    decK k l = some (acc l (byt l 0 - lead k) (k + 1), (k : Int) + 1) := by unfold decK; rw [if_pos ⟨h1, h2, h3, h4⟩]
theorem leads_bd {k : Nat} {a : Int} (h : leads k a) : 0 ≤ a - lead k ∧ a - lead k < 128 := by
  unfold leads at h
  match k, h with
  | 0, h => simp only [lead, wide] at *; omega
  | 1, h => simp only [lead, wide] at *; omega
  | 2, h => simp only [lead, wide] at *; omega
  | k + 3, h => simp only [lead, wide] at *; omega
theorem contTo_succ {l : List UInt8} {j : Nat} (h0 : 1 ≤ j) (h : contTo l j = true) (hc : contB (byt l j) = true) : contTo l (j + 1) = true := by
  match j, h0 with
  | j + 1, _ => simp [contTo, h, hc]
theorem acc_succ {l : List UInt8} {c : Int} {j : Nat} (h0 : 1 ≤ j) : acc l c (j + 1) = acc l c j * 64 + (byt l j - 128) := by
  match j, h0 with
  | j + 1, _ => rfl
theorem acc_small {l : List UInt8} {c : Int} {j : Nat} (h0 : 0 ≤ c) (h1 : c < 128) (hj : j ≤ 4) (h : contTo l j = true) : 0 ≤ acc l c j ∧ acc l c j < 33554433 := by
  have hx : ∀ (k : Nat), k ≤ 3 → (128 : Int) * 64 ^ k ≤ 33554432 := by
    intro k hk
    match k, hk with
    | 0, _ => decide
    | 1, _ => decide
    | 2, _ => decide
    | 3, _ => decide
  have hb : 0 ≤ acc l c j ∧ acc l c j < 128 * 64 ^ (j - 1) := acc_bd l c h0 h1 j h
  have := hx (j - 1) (by omega)
  omega

/- THE BITS -/
theorem and_mask_all : ∀ k : Fin 4, ∀ a : Fin 256, (bits .and .i64 ((a.val : Nat) : Int) (mask k.val) = lead k.val ↔ leads k.val ((a.val : Nat) : Int)) ∧ (leads k.val ((a.val : Nat) : Int) → bits .andNot .i64 ((a.val : Nat) : Int) (mask k.val) = ((a.val : Nat) : Int) - lead k.val) := by decide +kernel
theorem and_tail_all : ∀ a : Fin 256, (bits .and .i64 ((a.val : Nat) : Int) 192 = 128 ↔ contB ((a.val : Nat) : Int) = true) ∧ (contB ((a.val : Nat) : Int) = true → bits .and .i64 ((a.val : Nat) : Int) 63 = ((a.val : Nat) : Int) - 128) := by decide +kernel
theorem and_mask {k : Nat} (hk : k < 4) {a : Int} (h0 : 0 ≤ a) (h1 : a < 256) : (bits .and .i64 a (mask k) = lead k ↔ leads k a) ∧ (leads k a → bits .andNot .i64 a (mask k) = a - lead k) := by
  obtain ⟨n, rfl⟩ := Int.eq_ofNat_of_zero_le h0
  exact and_mask_all ⟨k, hk⟩ ⟨n, by omega⟩
theorem and_tail {a : Int} (h0 : 0 ≤ a) (h1 : a < 256) : (bits .and .i64 a 192 = 128 ↔ contB a = true) ∧ (contB a = true → bits .and .i64 a 63 = a - 128) := by
  obtain ⟨n, rfl⟩ := Int.eq_ofNat_of_zero_le h0
  exact and_tail_all ⟨n, by omega⟩
theorem ofInt_i64 (a : Nat) (ha : a < 9223372036854775808) : (BitVec.ofInt 64 (a : Int)).toNat = a := by
  rw [BitVec.ofInt_natCast, BitVec.toNat_ofNat]; exact Nat.mod_eq_of_lt (by omega)
theorem or_six {c d : Int} (h0 : 0 ≤ c) (h1 : c < 134217728) (h2 : 0 ≤ d) (h3 : d < 64) : bits .or .i64 (c * 64) d = c * 64 + d := by
  obtain ⟨a, rfl⟩ := Int.eq_ofNat_of_zero_le h0
  obtain ⟨b, rfl⟩ := Int.eq_ofNat_of_zero_le h2
  have e : ((a : Int) * 64) = ((a * 64 : Nat) : Int) := by omega
  rw [e]
  show IntKind.i64.wrap ((BitVec.ofInt 64 ((a * 64 : Nat) : Int) ||| BitVec.ofInt 64 (b : Int)).toNat : Int) = _
  have h := Nat.shiftLeft_add_eq_or_of_lt (b := b) (i := 6) (by omega) a
  rw [BitVec.toNat_or, ofInt_i64 _ (by omega), ofInt_i64 b (by omega), show a * 64 = a <<< 6 from by rw [Nat.shiftLeft_eq], ← h, IntKind.wrap_i64, Nat.shiftLeft_eq]
  omega
end Go.Proofs.YtcdcfhplkimecaaDoor
