/- Plain facts on texts, of no program: the list of a text's code points, and what is asked of each of them. -/
import Derived.Lib.Strings
import Derived.Laws.BitsAllLaws
import Derived.Laws.BitsLemmas
import Derived.Laws.Entries
namespace Go.Proofs.YtcfdfgbobnocnaaGreatDoor

def letB (c : Int) : Bool := decide ((97 ≤ c ∧ c ≤ 122) ∨ (65 ≤ c ∧ c ≤ 90) ∨ c = 95)
def digB (c : Int) : Bool := decide (48 ≤ c ∧ c ≤ 57)
def halfB (c : Int) : Bool := decide (55296 ≤ c ∧ c ≤ 57343)
def pairB (a b : Int) : Bool := decide (55296 ≤ a ∧ a < 56320 ∧ 56320 ≤ b ∧ b ≤ 57343)

/-- Are all of them letters, signs of the low line or digits? -/
def tailB (l : List UInt8) : Bool := l.all fun b => letB (b.toNat : Int) || digB (b.toNat : Int)
/-- Is it a name? -/
def nameB : List UInt8 → Bool
  | [] => false
  | b :: t => letB (b.toNat : Int) && tailB t

theorem tailB_append (l m : List UInt8) : tailB (l ++ m) = (tailB l && tailB m) := by simp [tailB]
theorem nameB_append (l m : List UInt8) (h : l ≠ []) : nameB (l ++ m) = (nameB l && tailB m) := by
  cases l with
  | nil => exact absurd rfl h
  | cons b t => simp [nameB, tailB_append, Bool.and_assoc]
theorem tailB_of_nameB {l : List UInt8} (h : nameB l = true) : tailB l = true := by
  cases l with
  | nil => cases h
  | cons b t =>
    simp only [nameB, Bool.and_eq_true] at h
    have h2 := h.2
    simp only [tailB] at h2
    simp [tailB, h.1, h2]
theorem take_snoc (s : ByteArray) (k : Nat) (h : k < s.size) : s.data.toList.take (k + 1) = s.data.toList.take k ++ [s[k]] := by
  rw [List.take_succ_eq_append_getElem (by simpa using h)]; rfl
/-- One byte more of a text of which all so far is a name's. -/
def nameTo (s : ByteArray) (k : Nat) : Prop := k = 0 ∨ nameB (s.data.toList.take k) = true
theorem take_ne (s : ByteArray) (k : Nat) (h0 : k ≠ 0) (h : k < s.size) : s.data.toList.take k ≠ [] := by
  have : s.data.toList.length = s.size := Array.length_toList
  intro e
  have := congrArg List.length e
  simp only [List.length_take, List.length_nil] at this
  omega
theorem nameTo_letter {s : ByteArray} {k : Nat} (h : k < s.size) (ht : nameTo s k) (hl : letB (s[k].toNat : Int) = true) : nameTo s (k + 1) := by
  refine .inr ?_
  rw [take_snoc s k h]
  rcases ht with h0 | ht
  · subst h0; simp [nameB, tailB, hl]
  · rw [nameB_append _ _ (by intro e; rw [e] at ht; cases ht), ht]; simp [tailB, hl]
theorem nameTo_digit {s : ByteArray} {k : Nat} (h : k < s.size) (h0 : k ≠ 0) (ht : nameTo s k) (hl : digB (s[k].toNat : Int) = true) : nameTo s (k + 1) := by
  refine .inr ?_
  rw [take_snoc s k h]
  rcases ht with h0' | ht
  · exact absurd h0' h0
  · rw [nameB_append _ _ (by intro e; rw [e] at ht; cases ht), ht]; simp [tailB, hl]
theorem nameB_split (s : ByteArray) (k : Nat) (h : k < s.size) : s.data.toList = s.data.toList.take k ++ s[k] :: s.data.toList.drop (k + 1) := by
  have e := (List.take_append_drop (k + 1) s.data.toList).symm
  rw [take_snoc s k h, List.append_assoc] at e
  exact e
theorem name_stop0 {s : ByteArray} (h : 0 < s.size) (hl : letB (s[0].toNat : Int) = false) : nameB s.data.toList = false := by
  rw [nameB_split s 0 h]; simp [nameB, hl]
theorem name_stop {s : ByteArray} {k : Nat} (h : k < s.size) (h0 : k ≠ 0) (hl : letB (s[k].toNat : Int) = false) (hd : digB (s[k].toNat : Int) = false) : nameB s.data.toList = false := by
  rw [nameB_split s k h, nameB_append _ _ (take_ne s k h0 h)]
  simp [tailB, hl, hd]
theorem name_done {s : ByteArray} (ht : nameTo s s.size) : nameB s.data.toList = !s.toList.isEmpty := by
  have hl : s.data.toList.length = s.size := Array.length_toList
  have e : s.toList = s.data.toList := Lib.toList_data s
  rw [e]
  rcases ht with h0 | ht
  · have : s.data.toList = [] := List.eq_nil_of_length_eq_zero (by omega)
    rw [this]; rfl
  · rw [← hl, List.take_length] at ht
    rw [ht]
    cases h : s.data.toList with
    | nil => rw [h] at ht; cases ht
    | cons _ _ => rfl
end Go.Proofs.YtcfdfgbobnocnaaGreatDoor
namespace Go.Proofs.YtcfdfgbobnocnaaGreatDoor

/-- Byte k of a list, as a number; 0 behind its end. -/
def byt (l : List UInt8) (k : Nat) : Int := ((l.getD k 0).toNat : Int)
def contB (b : Int) : Bool := decide (128 ≤ b ∧ b ≤ 191)
/-- The first byte's bits that are fixed, the bits by which they are told, the least code point, and how many first bytes there are, of the shape of k + 1 bytes. -/
def lead : Nat → Int | 0 => 0 | 1 => 192 | 2 => 224 | _ => 240
def mask : Nat → Int | 0 => 128 | 1 => 224 | 2 => 240 | _ => 248
def least : Nat → Int | 0 => 0 | 1 => 128 | 2 => 2048 | _ => 65536
def wide : Nat → Int | 0 => 128 | 1 => 32 | 2 => 16 | _ => 8
/-- The number that the first byte's rest and the bytes 1 to k - 1 are together. -/
def acc (l : List UInt8) (c : Int) : Nat → Int
  | 0 => c
  | 1 => c
  | k + 2 => acc l c (k + 1) * 64 + (byt l (k + 1) - 128)
/-- Are the bytes 1 to k - 1 ones that go on? -/
def contTo (l : List UInt8) : Nat → Bool
  | 0 => true
  | 1 => true
  | k + 2 => contTo l (k + 1) && contB (byt l (k + 1))
def leads (k : Nat) (a : Int) : Prop := lead k ≤ a ∧ a < lead k + wide k
instance (k : Nat) (a : Int) : Decidable (leads k a) := by unfold leads; infer_instance
def fair (k : Nat) (c : Int) : Prop := least k ≤ c ∧ c ≤ 1114111 ∧ halfB c = false
instance (k : Nat) (c : Int) : Decidable (fair k c) := by unfold fair; infer_instance
/-- The code point of k + 1 bytes at the head, if one is there. -/
def decK (k : Nat) (l : List UInt8) : Option (Int × Int) :=
  if k < l.length ∧ leads k (byt l 0) ∧ contTo l (k + 1) = true ∧ fair k (acc l (byt l 0 - lead k) (k + 1)) then some (acc l (byt l 0 - lead k) (k + 1), (k : Int) + 1) else none
/-- The code point at the head, and its number of bytes; 0 and 0 if there is none. -/
def dec (l : List UInt8) : Int × Int :=
  match decK 0 l with
  | some p => p
  | none => match decK 1 l with
    | some p => p
    | none => match decK 2 l with
      | some p => p
      | none => match decK 3 l with
        | some p => p
        | none => (0, 0)
/-- The shapes of fewer bytes than k + 1 have no code point. -/
def noneTo (l : List UInt8) (k : Nat) : Prop := ∀ j, j < k → decK j l = none
theorem noneTo_succ {l : List UInt8} {k : Nat} (h : noneTo l k) (hk : decK k l = none) : noneTo l (k + 1) := fun j hj => by
  rcases Nat.lt_or_ge j k with h' | h'
  · exact h j h'
  · obtain rfl : j = k := by omega
    exact hk
theorem dec_none {l : List UInt8} (h : noneTo l 4) : dec l = (0, 0) := by
  simp [dec, h 0 (by omega), h 1 (by omega), h 2 (by omega), h 3 (by omega)]
theorem dec_some {l : List UInt8} {k : Nat} {p : Int × Int} (hk : k < 4) (h : noneTo l k) (hp : decK k l = some p) : dec l = p := by
  match k, hk with
  | 0, _ => simp [dec, hp]
  | 1, _ => simp [dec, h 0 (by omega), hp]
  | 2, _ => simp [dec, h 0 (by omega), h 1 (by omega), hp]
  | 3, _ => simp [dec, h 0 (by omega), h 1 (by omega), h 2 (by omega), hp]

theorem byt_lt (l : List UInt8) (k : Nat) : 0 ≤ byt l k ∧ byt l k < 256 := by
  have := (l.getD k 0).toNat_lt
  unfold byt; omega
theorem byt_drop (s : ByteArray) (i k : Nat) (h : i + k < s.size) : (s[i + k].toNat : Int) = byt (s.data.toList.drop i) k := by
  unfold byt
  have hl : s.data.toList.length = s.size := Array.length_toList
  rw [List.getD_eq_getElem?_getD, List.getElem?_drop, List.getElem?_eq_getElem (by omega)]
  rfl
theorem acc_bd (l : List UInt8) (c : Int) (h0 : 0 ≤ c) (h1 : c < 128) : ∀ k, contTo l k = true → 0 ≤ acc l c k ∧ acc l c k < 128 * 64 ^ (k - 1) := by
  intro k
  induction k with
  | zero => intro _; exact ⟨h0, by simpa [acc] using h1⟩
  | succ k ih =>
    cases k with
    | zero => intro _; exact ⟨h0, by simpa [acc] using h1⟩
    | succ k =>
      intro h
      simp only [contTo, Bool.and_eq_true] at h
      obtain ⟨a, b⟩ := ih h.1
      have hc := h.2
      simp only [contB, decide_eq_true_eq] at hc
      simp only [acc]
      refine ⟨by omega, ?_⟩
      rw [show k + 1 + 1 - 1 = (k + 1 - 1) + 1 from by omega, Int.pow_succ]
      omega

theorem decK_leads {l : List UInt8} {k : Nat} (h : ¬ leads k (byt l 0)) : decK k l = none := by
  unfold decK; rw [if_neg (fun x => h x.2.1)]
theorem decK_short {l : List UInt8} {k : Nat} (h : ¬ k < l.length) : decK k l = none := by
  unfold decK; rw [if_neg (fun x => h x.1)]
theorem decK_fair {l : List UInt8} {k : Nat} (h : ¬ fair k (acc l (byt l 0 - lead k) (k + 1))) : decK k l = none := by
  unfold decK; rw [if_neg (fun x => h x.2.2.2)]
theorem contTo_mono {l : List UInt8} : ∀ (k j : Nat), j ≤ k → contTo l k = true → contTo l j = true := by
  intro k
  induction k with
  | zero => intro j hj h; obtain rfl : j = 0 := by omega
            exact h
  | succ k ih =>
    intro j hj h
    rcases Nat.lt_or_ge j (k + 1) with h' | h'
    · refine ih j (by omega) ?_
      cases k with
      | zero => rfl
      | succ k => simp only [contTo, Bool.and_eq_true] at h; exact h.1
    · obtain rfl : j = k + 1 := by omega
      exact h
theorem decK_cont {l : List UInt8} {k j : Nat} (h0 : 1 ≤ j) (hj : j ≤ k) (h : ¬ contB (byt l j) = true) : decK k l = none := by
  unfold decK; rw [if_neg (fun x => h ?_)]
  have := contTo_mono (k + 1) (j + 1) (by omega) x.2.2.1
  match j, h0 with
  | j + 1, _ => simp only [contTo, Bool.and_eq_true] at this; exact this.2
theorem decK_yes {l : List UInt8} {k : Nat} (h1 : k < l.length) (h2 : leads k (byt l 0)) (h3 : contTo l (k + 1) = true) (h4 : fair k (acc l (byt l 0 - lead k) (k + 1))) :
    decK k l = some (acc l (byt l 0 - lead k) (k + 1), (k : Int) + 1) := by unfold decK; rw [if_pos ⟨h1, h2, h3, h4⟩]
theorem leads_bd {k : Nat} {a : Int} (h : leads k a) : 0 ≤ a - lead k ∧ a - lead k < 128 := by
  unfold leads at h
  match k, h with
  | 0, h => simp only [lead, wide] at *; omega
  | 1, h => simp only [lead, wide] at *; omega
  | 2, h => simp only [lead, wide] at *; omega
  | k + 3, h => simp only [lead, wide] at *; omega
theorem contTo_succ {l : List UInt8} {j : Nat} (h0 : 1 ≤ j) (h : contTo l j = true) (hc : contB (byt l j) = true) : contTo l (j + 1) = true := by
  match j, h0 with
  | j + 1, _ => simp [contTo, h, hc]
theorem acc_succ {l : List UInt8} {c : Int} {j : Nat} (h0 : 1 ≤ j) : acc l c (j + 1) = acc l c j * 64 + (byt l j - 128) := by
  match j, h0 with
  | j + 1, _ => rfl
theorem acc_small {l : List UInt8} {c : Int} {j : Nat} (h0 : 0 ≤ c) (h1 : c < 128) (hj : j ≤ 4) (h : contTo l j = true) : 0 ≤ acc l c j ∧ acc l c j < 33554433 := by
  have hx : ∀ (k : Nat), k ≤ 3 → (128 : Int) * 64 ^ k ≤ 33554432 := by
    intro k hk
    match k, hk with
    | 0, _ => decide
    | 1, _ => decide
    | 2, _ => decide
    | 3, _ => decide
  have hb : 0 ≤ acc l c j ∧ acc l c j < 128 * 64 ^ (j - 1) := acc_bd l c h0 h1 j h
  have := hx (j - 1) (by omega)
  omega

/- THE BITS -/
theorem and_mask_all : ∀ k : Fin 4, ∀ a : Fin 256, (bits .and .i64 ((a.val : Nat) : Int) (mask k.val) = lead k.val ↔ leads k.val ((a.val : Nat) : Int)) ∧ (leads k.val ((a.val : Nat) : Int) → bits .andNot .i64 ((a.val : Nat) : Int) (mask k.val) = ((a.val : Nat) : Int) - lead k.val) := by decide +kernel
theorem and_tail_all : ∀ a : Fin 256, (bits .and .i64 ((a.val : Nat) : Int) 192 = 128 ↔ contB ((a.val : Nat) : Int) = true) ∧ (contB ((a.val : Nat) : Int) = true → bits .and .i64 ((a.val : Nat) : Int) 63 = ((a.val : Nat) : Int) - 128) := by decide +kernel
theorem and_mask {k : Nat} (hk : k < 4) {a : Int} (h0 : 0 ≤ a) (h1 : a < 256) : (bits .and .i64 a (mask k) = lead k ↔ leads k a) ∧ (leads k a → bits .andNot .i64 a (mask k) = a - lead k) := by
  obtain ⟨n, rfl⟩ := Int.eq_ofNat_of_zero_le h0
  exact and_mask_all ⟨k, hk⟩ ⟨n, by omega⟩
theorem and_tail {a : Int} (h0 : 0 ≤ a) (h1 : a < 256) : (bits .and .i64 a 192 = 128 ↔ contB a = true) ∧ (contB a = true → bits .and .i64 a 63 = a - 128) := by
  obtain ⟨n, rfl⟩ := Int.eq_ofNat_of_zero_le h0
  exact and_tail_all ⟨n, by omega⟩
theorem ofInt_i64 (a : Nat) (ha : a < 9223372036854775808) : (BitVec.ofInt 64 (a : Int)).toNat = a := by
  rw [BitVec.ofInt_natCast, BitVec.toNat_ofNat]; exact Nat.mod_eq_of_lt (by omega)
theorem or_six {c d : Int} (h0 : 0 ≤ c) (h1 : c < 134217728) (h2 : 0 ≤ d) (h3 : d < 64) : bits .or .i64 (c * 64) d = c * 64 + d := by
  obtain ⟨a, rfl⟩ := Int.eq_ofNat_of_zero_le h0
  obtain ⟨b, rfl⟩ := Int.eq_ofNat_of_zero_le h2
  have e : ((a : Int) * 64) = ((a * 64 : Nat) : Int) := by omega
  rw [e]
  show IntKind.i64.wrap ((BitVec.ofInt 64 ((a * 64 : Nat) : Int) ||| BitVec.ofInt 64 (b : Int)).toNat : Int) = _
  have h := Nat.shiftLeft_add_eq_or_of_lt (b := b) (i := 6) (by omega) a
  rw [BitVec.toNat_or, ofInt_i64 _ (by omega), ofInt_i64 b (by omega), show a * 64 = a <<< 6 from by rw [Nat.shiftLeft_eq], ← h, IntKind.wrap_i64, Nat.shiftLeft_eq]
  omega
end Go.Proofs.YtcfdfgbobnocnaaGreatDoor
namespace Go.Proofs.YtcfdfgbobnocnaaGreatDoor

theorem decK_bd {k : Nat} {l : List UInt8} {p : Int × Int} (hk : k < 4) (h : decK k l = some p) : p.2 = (k : Int) + 1 ∧ k + 1 ≤ l.length ∧ 0 ≤ p.1 ∧ fair k p.1 := by
  unfold decK at h
  split at h
  · rename_i hc
    obtain ⟨h1, h2, h3, h4⟩ := hc
    injection h with h
    subst h
    have hls := leads_bd h2
    exact ⟨rfl, by omega, (acc_small hls.1 hls.2 (by omega) h3).1, h4⟩
  · cases h
/-- What stands at the head: no code point, or the one of some shape. -/
theorem dec_cases (l : List UInt8) : (noneTo l 4 ∧ dec l = (0, 0)) ∨ ∃ k, k < 4 ∧ noneTo l k ∧ decK k l = some (dec l) := by
  cases h0 : decK 0 l with
  | some p => exact .inr ⟨0, by omega, fun j hj => by omega, by rw [dec_some (k := 0) (by omega) (fun j hj => by omega) h0, h0]⟩
  | none =>
    have n1 : noneTo l 1 := fun j hj => by obtain rfl : j = 0 := by omega
                                           exact h0
    cases h1 : decK 1 l with
    | some p => exact .inr ⟨1, by omega, n1, by rw [dec_some (k := 1) (by omega) n1 h1, h1]⟩
    | none =>
      have n2 := noneTo_succ n1 h1
      cases h2 : decK 2 l with
      | some p => exact .inr ⟨2, by omega, n2, by rw [dec_some (k := 2) (by omega) n2 h2, h2]⟩
      | none =>
        have n3 := noneTo_succ n2 h2
        cases h3 : decK 3 l with
        | some p => exact .inr ⟨3, by omega, n3, by rw [dec_some (k := 3) (by omega) n3 h3, h3]⟩
        | none => exact .inl ⟨noneTo_succ n3 h3, dec_none (noneTo_succ n3 h3)⟩
theorem dec_bd (l : List UInt8) : 0 ≤ (dec l).2 ∧ (dec l).2 ≤ 4 ∧ (dec l).2 ≤ l.length ∧ 0 ≤ (dec l).1 ∧ (dec l).1 ≤ 1114111 ∧ halfB (dec l).1 = false := by
  rcases dec_cases l with ⟨_, h⟩ | ⟨k, hk, _, h⟩
  · rw [h]; simp [halfB]
  · obtain ⟨h1, h2, h3, h4⟩ := decK_bd hk h
    unfold fair at h4
    exact ⟨by omega, by omega, by omega, h3, h4.2.1, h4.2.2⟩

/-- The code points of a text; none, if something else stands in it. (n: at least as many as there are bytes.) -/
def codesF : Nat → List UInt8 → Option (List Int)
  | _, [] => some []
  | 0, _ :: _ => none
  | n + 1, b :: t => if (dec (b :: t)).2 = 0 then none else (codesF n ((b :: t).drop (dec (b :: t)).2.toNat)).map ((dec (b :: t)).1 :: ·)
def codes (l : List UInt8) : Option (List Int) := codesF l.length l
theorem codesF_enough : ∀ (n m : Nat) (l : List UInt8), l.length ≤ n → l.length ≤ m → codesF n l = codesF m l := by
  intro n
  induction n with
  | zero =>
    intro m l h _
    have : l = [] := List.eq_nil_of_length_eq_zero (by omega)
    subst this
    cases m <;> rfl
  | succ n ih =>
    intro m l hn hm
    cases l with
    | nil => cases m <;> rfl
    | cons b t =>
      cases m with
      | zero => simp at hm
      | succ m =>
        have hb := dec_bd (b :: t)
        simp only [codesF]
        split
        · rfl
        · rename_i h0
          rw [ih m _ (by simp only [List.length_drop, List.length_cons] at *; omega) (by simp only [List.length_drop, List.length_cons] at *; omega)]
theorem codes_nil : codes [] = some [] := rfl
theorem codes_bad {l : List UInt8} (h : l ≠ []) (h0 : (dec l).2 = 0) : codes l = none := by
  cases l with
  | nil => exact absurd rfl h
  | cons b t => simp only [codes, List.length_cons, codesF, if_pos h0]
theorem codes_step {l : List UInt8} (h : l ≠ []) (h0 : (dec l).2 ≠ 0) : codes l = (codes (l.drop (dec l).2.toNat)).map ((dec l).1 :: ·) := by
  cases l with
  | nil => exact absurd rfl h
  | cons b t =>
    have hb := dec_bd (b :: t)
    show codesF (t.length + 1) (b :: t) = _
    simp only [codesF, if_neg h0]
    rw [codesF_enough t.length ((b :: t).drop (dec (b :: t)).2.toNat).length _ (by simp only [List.length_drop, List.length_cons] at *; omega) (Nat.le_refl _)]
    rfl
/-- Are they all code points, and does each one fit? -/
def eachP (p : Int → Bool) (l : List UInt8) : Bool :=
  match codes l with
  | some cs => cs.all p
  | none => false
theorem eachP_nil (p : Int → Bool) : eachP p [] = true := rfl
theorem eachP_bad {p : Int → Bool} {l : List UInt8} (h : l ≠ []) (h0 : (dec l).2 = 0) : eachP p l = false := by simp [eachP, codes_bad h h0]
theorem eachP_step {p : Int → Bool} {l : List UInt8} (h : l ≠ []) (h0 : (dec l).2 ≠ 0) : eachP p l = (p (dec l).1 && eachP p (l.drop (dec l).2.toNat)) := by
  unfold eachP
  rw [codes_step h h0]
  cases codes (l.drop (dec l).2.toNat) with
  | none => simp
  | some cs => simp
def srcB (c : Int) : Bool := decide (c = 9 ∨ c = 10 ∨ c = 13 ∨ (32 ≤ c ∧ c < 65536))
def goodB (l : List UInt8) : Bool := eachP (fun _ => true) l
def sourceB (l : List UInt8) : Bool := eachP srcB l
theorem goodB_iff (l : List UInt8) : goodB l = (codes l).isSome := by
  unfold goodB eachP
  cases codes l <;> simp
end Go.Proofs.YtcfdfgbobnocnaaGreatDoor
