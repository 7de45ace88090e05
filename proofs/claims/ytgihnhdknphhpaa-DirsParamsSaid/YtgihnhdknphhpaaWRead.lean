/- The landed reader of a type's text, as plain lists of bytes: it reads what may be printed, and nothing else; so does the document's own. -/
import Derived.Test.YtgihnhdknphhpaaWMath
namespace Go.Proofs.Ytgihnhdknphhpaa

/-- The landed reader: f places at most, from place j on. -/
def rdB : Nat → Nat → Nat → List UInt8 → List UInt8 × Nat × Nat
  | 0, j, m, _ => ([], j, m)
  | f + 1, j, m, s =>
    let b := Lib.trimSuffix s [33]
    let m' := if Lib.hasSuffix s [33] then m ||| 2 ^ j else m
    let c := Lib.trimPrefix b [91]
    if (Lib.hasPrefix b [91] && Lib.hasSuffix c [93]) = true then rdB f (j + 1) m' (Lib.trimSuffix c [93]) else (b, j, m')

theorem suffix_yes (x : List UInt8) (b : UInt8) : Lib.hasSuffix (x ++ [b]) [b] = true := by simp [Lib.hasSuffix]
theorem suffix_is {x : List UInt8} {b : UInt8} (h : Lib.hasSuffix x [b] = true) : x = x.take (x.length - 1) ++ [b] := by
  obtain ⟨t, rfl⟩ : [b] <:+ x := by simpa [Lib.hasSuffix] using h
  simp
theorem suffix_no {x : List UInt8} {b c : UInt8} (h : x.getLast? = some c) (hb : c ≠ b) : Lib.hasSuffix x [b] = false := by
  cases hs : Lib.hasSuffix x [b] with
  | false => rfl
  | true =>
    rw [suffix_is hs, List.getLast?_append] at h
    simp at h
    exact absurd h.symm hb
theorem trims_yes (x : List UInt8) (b : UInt8) : Lib.trimSuffix (x ++ [b]) [b] = x := by
  rw [Lib.trimSuffix, suffix_yes]; simp
theorem trims_no {x : List UInt8} {b : UInt8} (h : Lib.hasSuffix x [b] = false) : Lib.trimSuffix x [b] = x := by
  rw [Lib.trimSuffix, h]; rfl
theorem prefix_yes (x : List UInt8) (b : UInt8) : Lib.hasPrefix (b :: x) [b] = true := by simp [Lib.hasPrefix]
theorem prefix_is {x : List UInt8} {b : UInt8} (h : Lib.hasPrefix x [b] = true) : x = b :: Lib.trimPrefix x [b] := by
  rw [Lib.trimPrefix, if_pos h]
  obtain ⟨t, rfl⟩ : [b] <+: x := by simpa [Lib.hasPrefix] using h
  rfl
theorem trimp_yes (x : List UInt8) (b : UInt8) : Lib.trimPrefix (b :: x) [b] = x := by
  rw [Lib.trimPrefix, prefix_yes]; rfl
theorem prefix_no {x : List UInt8} {b c : UInt8} (h : x.head? = some c) (hb : c ≠ b) : Lib.hasPrefix x [b] = false := by
  cases hs : Lib.hasPrefix x [b] with
  | false => rfl
  | true => rw [prefix_is hs] at h; simp at h; exact absurd h.symm hb

theorem part_neq {b c : UInt8} (h : (letB (b.toNat : Int) || digB (b.toNat : Int)) = true) (hc : letB (c.toNat : Int) = false) (hd : digB (c.toNat : Int) = false) : b ≠ c := by
  rintro rfl
  rw [hc, hd] at h
  cases h
theorem name_last {n : List UInt8} (h : nameB n = true) : ∃ c, n.getLast? = some c ∧ (letB (c.toNat : Int) || digB (c.toNat : Int)) = true := by
  have h2 := tailB_of_nameB h
  cases hl : n.getLast? with
  | none => rw [List.getLast?_eq_none_iff] at hl; rw [hl] at h; cases h
  | some c => exact ⟨c, rfl, (List.all_eq_true.1 h2) c (List.mem_of_getLast? hl)⟩
theorem name_head {n : List UInt8} (h : nameB n = true) : ∃ c, n.head? = some c ∧ (letB (c.toNat : Int) || digB (c.toNat : Int)) = true := by
  have h2 := tailB_of_nameB h
  cases n with
  | nil => cases h
  | cons c t => exact ⟨c, rfl, (List.all_eq_true.1 h2) c (by simp)⟩
/-- What stands at a place ahead of its mark. -/
def coreD (n : List UInt8) (m : Nat) : Nat → Nat → List UInt8
  | 0, _ => n
  | d + 1, j => 91 :: (prD n m d (j + 1) ++ [93])
theorem prD_core (n : List UInt8) (m d j : Nat) : prD n m d j = coreD n m d j ++ bang j m := by
  cases d with
  | zero => rfl
  | succ d => simp [prD, coreD]
theorem core_last {n : List UInt8} (h : nameB n = true) (m d j : Nat) : ∃ c, (coreD n m d j).getLast? = some c ∧ c ≠ 33 := by
  cases d with
  | zero =>
    obtain ⟨c, h1, h2⟩ := name_last h
    exact ⟨c, h1, part_neq h2 (by decide) (by decide)⟩
  | succ d =>
    refine ⟨93, ?_, by decide⟩
    have e : coreD n m (d + 1) j = (91 :: prD n m d (j + 1)) ++ [93] := rfl
    rw [e, List.getLast?_append]
    rfl
theorem bit_set (m j : Nat) : (2 ^ j ||| m).testBit j = true := by rw [Nat.testBit_or, Nat.testBit_two_pow]; simp
theorem mark_step {m m0 j : Nat} (hm : ∀ i, m0.testBit i = (decide (i < j) && m.testBit i)) : ∀ i, (if m.testBit j = true then m0 ||| 2 ^ j else m0).testBit i = (decide (i < j + 1) && m.testBit i) := by
  intro i
  have e : decide (i < j + 1) = (decide (i < j) || decide (j = i)) := by
    by_cases h : j = i
    · simp [h]
    · by_cases h1 : i < j
      · simp [h1, (by omega : i < j + 1)]
      · simp [h, h1]; omega
  by_cases hb : m.testBit j = true
  · rw [if_pos hb, bit_or, hm i, e]
    by_cases hj : j = i
    · subst hj; simp [hb]
    · simp [hj]
  · rw [if_neg hb, hm i, e]
    by_cases hj : j = i
    · subst hj; simp [hb]
    · simp [hj]
theorem rd_yes {n : List UInt8} (hn : nameB n = true) {m : Nat} : ∀ d f j m0, d < f → (∀ i, d + j < i → m.testBit i = false) → (∀ i, m0.testBit i = (decide (i < j) && m.testBit i)) → rdB f j m0 (prD n m d j) = (n, d + j, m) := by
  intro d
  induction d with
  | zero =>
    intro f j m0 hf hz hm
    obtain ⟨f, rfl⟩ : ∃ f', f = f' + 1 := ⟨f - 1, by omega⟩
    have hs := mark_step hm
    obtain ⟨c, hc, hne⟩ := core_last hn m 0 j
    obtain ⟨b, hb1, hb2⟩ := name_head hn
    have hp : Lib.hasPrefix n [91] = false := prefix_no hb1 (part_neq hb2 (by decide) (by decide))
    have he : (if m.testBit j = true then m0 ||| 2 ^ j else m0) = m := Nat.eq_of_testBit_eq fun i => by
      rw [hs i]
      by_cases h : i < j + 1
      · simp [h]
      · rw [hz i (by omega)]; simp
    show rdB (f + 1) j m0 (n ++ bang j m) = _
    unfold bang
    by_cases hb : m.testBit j = true
    · rw [if_pos hb] at he ⊢
      simp only [rdB, trims_yes, suffix_yes, if_true, hp, Bool.false_and, Bool.false_eq_true, if_false, he, Nat.zero_add]
    · rw [if_neg hb] at he ⊢
      have hno := suffix_no hc hne
      simp only [coreD] at hno
      rw [List.append_nil]
      simp only [rdB, trims_no hno, hno, hp, Bool.false_and, Bool.false_eq_true, if_false, he, Nat.zero_add]
  | succ d ih =>
    intro f j m0 hf hz hm
    obtain ⟨f, rfl⟩ : ∃ f', f = f' + 1 := ⟨f - 1, by omega⟩
    have hs := mark_step hm
    obtain ⟨c, hc, hne⟩ := core_last hn m (d + 1) j
    have hi := ih f (j + 1) _ (by omega) (fun i hi => hz i (by omega)) hs
    have e1 : coreD n m (d + 1) j = 91 :: (prD n m d (j + 1) ++ [93]) := rfl
    rw [prD_core]
    unfold bang
    by_cases hb : m.testBit j = true
    · rw [if_pos hb] at hi ⊢
      simp only [rdB, trims_yes, suffix_yes, if_true]
      rw [e1, prefix_yes, trimp_yes, suffix_yes, trims_yes]
      simp only [Bool.and_self, if_true]
      rw [hi, (by omega : d + (j + 1) = d + 1 + j)]
    · rw [if_neg hb] at hi ⊢
      have hno := suffix_no hc hne
      rw [List.append_nil]
      simp only [rdB, trims_no hno, hno, Bool.false_eq_true, if_false]
      rw [e1, prefix_yes, trimp_yes, suffix_yes, trims_yes]
      simp only [Bool.and_self, if_true]
      rw [hi, (by omega : d + (j + 1) = d + 1 + j)]
theorem trim_split (s : List UInt8) (b : UInt8) : s = Lib.trimSuffix s [b] ++ (if Lib.hasSuffix s [b] = true then [b] else []) := by
  cases h : Lib.hasSuffix s [b] with
  | false => rw [trims_no h]; simp
  | true => 
    have := suffix_is h
    rw [if_pos rfl, Lib.trimSuffix, if_pos h]
    simpa using this
theorem rd_only : ∀ f j m0 s n l m, (∀ i, j ≤ i → m0.testBit i = false) → rdB f j m0 s = (n, l, m) → nameB n = true → ∃ d, l = d + j ∧ d < f ∧ s = prD n m d j ∧ (∀ i, i < j → m.testBit i = m0.testBit i) ∧ (∀ i, l < i → m.testBit i = false) := by
  intro f
  induction f with
  | zero => intro j m0 s n l m _ h hn; simp only [rdB, Prod.mk.injEq] at h; obtain ⟨rfl, _⟩ := h; cases hn
  | succ f ih =>
    intro j m0 s n l m hz h hn
    have hsp := trim_split s 33
    simp only [rdB] at h
    generalize Lib.trimSuffix s [33] = b at h hsp
    have hm' : ∀ i, (if Lib.hasSuffix s [33] = true then m0 ||| 2 ^ j else m0).testBit i = (m0.testBit i || (decide (j = i) && Lib.hasSuffix s [33])) := by
      intro i
      cases Lib.hasSuffix s [33] with
      | true => rw [if_pos rfl, bit_or]; simp
      | false => simp
    generalize (if Lib.hasSuffix s [33] = true then m0 ||| 2 ^ j else m0) = m1 at h hm'
    by_cases hc : (Lib.hasPrefix b [91] && Lib.hasSuffix (Lib.trimPrefix b [91]) [93]) = true
    · rw [if_pos hc] at h
      simp only [Bool.and_eq_true] at hc
      obtain ⟨d, hl, hd, he, hlow, hhigh⟩ := ih _ _ _ _ _ _ (fun i hi => by rw [hm' i, hz i (by omega), decide_eq_false (by omega : ¬ j = i)]; rfl) h hn
      refine ⟨d + 1, by omega, by omega, ?_, fun i hi => ?_, hhigh⟩
      · have hb := prefix_is hc.1
        have hc2 := trim_split (Lib.trimPrefix b [91]) 93
        rw [if_pos hc.2] at hc2
        rw [hsp, hb, hc2, he, prD, bang, hlow j (by omega), hm' j, hz j (by omega)]
        cases Lib.hasSuffix s [33] <;> simp
      · rw [hlow i (by omega), hm' i, decide_eq_false (by omega : ¬ j = i)]; simp
    · rw [if_neg hc] at h
      simp only [Prod.mk.injEq] at h
      obtain ⟨rfl, rfl, rfl⟩ := h
      refine ⟨0, by omega, by omega, ?_, fun i hi => ?_, fun i hi => ?_⟩
      · rw [prD, bang, hm' j, hz j (by omega)]
        refine hsp.trans ?_
        cases Lib.hasSuffix s [33] <;> simp
      · rw [hm' i, decide_eq_false (by omega : ¬ j = i)]; simp
      · rw [hm' i, hz i (by omega), decide_eq_false (by omega : ¬ j = i)]; rfl

/-- s is the text of the type that has this name, these lists, these marks. -/
def IsT (s n : List UInt8) (l m : Nat) : Prop := nameB n = true ∧ l ≤ 4 ∧ m < 2 ^ (l + 1) ∧ s = printW n l m
theorem high_zero {l m : Nat} (h : m < 2 ^ (l + 1)) : ∀ i, l < i → m.testBit i = false := fun i hi => Nat.testBit_lt_two_pow (Nat.lt_of_lt_of_le h (Nat.pow_le_pow_right (by omega) (by omega)))
theorem high_lt {l m : Nat} (h : ∀ i, l < i → m.testBit i = false) : m < 2 ^ (l + 1) := Nat.lt_pow_two_of_testBit _ fun i hi => h i (by omega)
theorem wread_back {s n : List UInt8} {l m : Nat} (h : IsT s n l m) : rdB 5 0 0 s = (n, l, m) := by
  obtain ⟨hn, hl, hm, rfl⟩ := h
  exact rd_yes hn l 5 0 0 (by omega) (fun i hi => high_zero hm i (by omega)) (fun i => by simp)
theorem isT_unique {s n n' : List UInt8} {l l' m m' : Nat} (h : IsT s n l m) (h' : IsT s n' l' m') : n = n' ∧ l = l' ∧ m = m' := by
  have := (wread_back h).symm.trans (wread_back h')
  simpa using this
theorem rd_isT {s n : List UInt8} {l m : Nat} (h : rdB 5 0 0 s = (n, l, m)) (hn : nameB n = true) : IsT s n l m := by
  obtain ⟨d, hl, hd, he, _, hz⟩ := rd_only 5 0 0 s n l m (fun i _ => by simp) h hn
  obtain rfl : l = d := by omega
  exact ⟨hn, by omega, high_lt hz, he⟩

def partU (b : UInt8) : Bool := letB (b.toNat : Int) || digB (b.toNat : Int)
/-- How many brackets open, and how long the name behind them is. -/
def opens (s : List UInt8) : Nat := (s.takeWhile fun b => b == 91).length
def nameLen (s : List UInt8) : Nat := (s.takeWhile partU).length
theorem takeWhile_app {p : UInt8 → Bool} : ∀ {x y : List UInt8}, (∀ b ∈ x, p b = true) → (∀ b, y.head? = some b → p b = false) → (x ++ y).takeWhile p = x := by
  intro x
  induction x with
  | nil =>
    intro y _ hy
    cases y with
    | nil => rfl
    | cons b t => simp [hy b rfl]
  | cons b t ih => intro y hx hy; simp [hx b (by simp), ih (fun c hc => hx c (by simp [hc])) hy]
theorem tail_head (m d j : Nat) : ∀ b, (tailD m d j).head? = some b → b = 33 ∨ b = 93 := by
  induction d generalizing j with
  | zero => intro b h; unfold tailD bang at h; split at h <;> simp at h; exact .inl h.symm
  | succ d ih =>
    intro b h
    rw [tailD] at h
    cases ht : tailD m d (j + 1) with
    | nil => rw [ht] at h; simp at h; exact .inr h.symm
    | cons c t => rw [ht] at h; simp at h; subst h; exact ih (j + 1) c (by rw [ht]; rfl)
theorem isT_parts {s n : List UInt8} {l m : Nat} (h : IsT s n l m) : opens s = l ∧ nameLen (s.drop l) = n.length ∧ (s.drop l).take n.length = n ∧ parB l (l + 1) 0 ((s.drop l).drop n.length) = some m := by
  obtain ⟨hn, hl, hm, rfl⟩ := h
  rw [printW, prD_eq]
  have e1 : (List.replicate l (91 : UInt8) ++ (n ++ tailD m l 0)).takeWhile (fun b => b == 91) = List.replicate l 91 := by
    refine takeWhile_app (fun b hb => by rw [List.eq_of_mem_replicate hb]; rfl) (fun b hb => ?_)
    obtain ⟨c, h1, h2⟩ := name_head hn
    have : b = c := by
      cases n with
      | nil => cases h1
      | cons x t => simp at h1 hb; rw [← h1, ← hb]
    subst this
    have := part_neq (c := 91) h2 (by decide) (by decide)
    simpa using this
  have e2 : (List.replicate l (91 : UInt8) ++ (n ++ tailD m l 0)).drop l = n ++ tailD m l 0 := by
    have := List.drop_left (l₁ := List.replicate l (91 : UInt8)) (l₂ := n ++ tailD m l 0)
    rwa [List.length_replicate] at this
  have e3 : (n ++ tailD m l 0).takeWhile partU = n := by
    refine takeWhile_app (fun b hb => (List.all_eq_true.1 (tailB_of_nameB hn)) b hb) (fun b hb => ?_)
    rcases tail_head m l 0 b hb with rfl | rfl <;> decide
  refine ⟨by rw [opens, e1, List.length_replicate], by rw [e2, nameLen, e3], by rw [e2, List.take_left], ?_⟩
  rw [e2, List.drop_left, ← suf_all]
  exact parB_yes l m (l + 1) 0 (Nat.le_refl _) (fun j => by
    by_cases hj : l + 1 ≤ j
    · rw [high_zero hm j (by omega)]; simp
    · simp [hj])
theorem takeWhile_rep (s : List UInt8) : s.takeWhile (fun b => b == 91) = List.replicate (opens s) 91 := by
  refine List.eq_replicate_iff.2 ⟨rfl, fun b hb => ?_⟩
  have := List.all_eq_true.1 (List.all_takeWhile (p := fun b : UInt8 => b == 91) (l := s)) b hb
  simpa using this
theorem parts_isT {s n : List UInt8} {l m k : Nat} (h1 : opens s = l) (h3 : (s.drop l).take k = n) (hl : l ≤ 4) (hn : nameB n = true) (h4 : parB l (l + 1) 0 ((s.drop l).drop k) = some m) : IsT s n l m := by
  obtain ⟨h5, h6⟩ := parB_only l (l + 1) 0 _ m (Nat.le_refl _) (fun j _ => by simp) h4
  refine ⟨hn, hl, high_lt fun i hi => by rw [h6 i (by omega)]; simp, ?_⟩
  rw [printW, prD_eq, ← suf_all, ← h5, ← h3, List.take_append_drop]
  have := List.takeWhile_append_dropWhile (p := fun b : UInt8 => b == 91) (l := s)
  rw [takeWhile_rep, h1] at this
  have hd : s.drop l = s.dropWhile fun b => b == 91 := by
    conv => lhs; rw [← this]
    have := List.drop_left (l₁ := List.replicate l (91 : UInt8)) (l₂ := s.dropWhile fun b => b == 91)
    rwa [List.length_replicate] at this
  rw [hd]
  exact this.symm
end Go.Proofs.Ytgihnhdknphhpaa
