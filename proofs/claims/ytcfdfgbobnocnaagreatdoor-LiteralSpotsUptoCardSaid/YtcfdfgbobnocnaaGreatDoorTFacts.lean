/- Plain facts of tokens that the laws need: units that are written one behind the other, numbers, texts of plain bytes. -/
import Derived.Test.YtcfdfgbobnocnaaGreatDoorTMath
namespace Go.Proofs.YtcfdfgbobnocnaaGreatDoor

theorem byte_all {P : UInt8 → Prop} (h : ∀ a : Fin 256, P (UInt8.ofNat a.val)) (b : UInt8) : P b := by
  have := h ⟨b.toNat, UInt8.toNat_lt b⟩
  simpa using this

/-- Units that have been read but not joined yet, then the rest. -/
def lineU (us : List Int) (l : List UInt8) : Option (List UInt8 × Nat) :=
  match joinL (us ++ hexRun l) with
  | none => none
  | some x => (lineL (l.drop (6 * (hexRun l).length))).map fun q => (x ++ q.1, 6 * (hexRun l).length + q.2)
theorem joinL_nil : joinL [] = some [] := rfl
theorem unitAt_head {l : List UInt8} {u : Int} (h : unitAt l = some u) : ∃ t, l = 92 :: 117 :: t := by
  unfold unitAt at h
  split at h
  · rename_i x y a b c d r
    split at h
    · rename_i hc
      simp only [Bool.and_eq_true, beq_iff_eq] at hc
      obtain ⟨⟨⟨⟨⟨rfl, rfl⟩, _⟩, _⟩, _⟩, _⟩ := hc
      exact ⟨_, rfl⟩
    · cases h
  · cases h
theorem hexRun_ne {l : List UInt8} (h : hexRun l ≠ []) : ∃ t, l = 92 :: 117 :: t := by
  cases hu : unitAt l with
  | none => exact absurd (hexRun_none hu) h
  | some u => exact unitAt_head hu
theorem map_id' {o : Option (List UInt8 × Nat)} : (o.map fun q => (([] : List UInt8) ++ q.1, 0 + q.2)) = o := by
  cases o <;> simp
theorem lineU_nil (l : List UInt8) : lineU [] l = lineL l := by
  unfold lineU
  by_cases h : hexRun l = []
  · rw [h, List.append_nil, joinL_nil]
    simp only [List.length_nil, Nat.mul_zero, List.drop_zero]
    exact map_id'
  · obtain ⟨t, rfl⟩ := hexRun_ne h
    rw [lineL_cons, List.nil_append]
    have e : escL (92 :: 117 :: t) = (joinL (hexRun (92 :: 117 :: t))).map fun x => (x, 6 * (hexRun (92 :: 117 :: t)).length) := by
      unfold escL
      rw [if_neg h]
    rw [e]
    cases joinL (hexRun (92 :: 117 :: t)) with
    | none => rfl
    | some x => rfl
theorem lineU_unit {us : List Int} {l : List UInt8} {u : Int} (h : unitAt l = some u) : lineU us l = (lineU (us ++ [u]) (l.drop 6)).map fun q => (q.1, 6 + q.2) := by
  unfold lineU
  rw [hexRun_some h, List.append_assoc, List.singleton_append]
  cases joinL (us ++ u :: hexRun (l.drop 6)) with
  | none => rfl
  | some x =>
    simp only [List.length_cons, List.drop_drop, Option.map_map]
    rw [show 6 + 6 * (hexRun (l.drop 6)).length = 6 * ((hexRun (l.drop 6)).length + 1) by omega]
    congr 1
    funext q
    simp only [Function.comp, Prod.mk.injEq, true_and]
    omega
theorem lineU_none {us : List Int} {l : List UInt8} (h : unitAt l = none) : lineU us l = match joinL us with | none => none | some x => (lineL l).map fun q => (x ++ q.1, q.2) := by
  unfold lineU
  rw [hexRun_none h, List.append_nil]
  cases joinL us with
  | none => rfl
  | some x =>
    simp only [List.length_nil, Nat.mul_zero, List.drop_zero]
    congr 1
    funext q
    simp

/-- A number is the whole of a text just if the number at its head is as long. -/
theorem kindL_eq (l : List UInt8) : kindL l = if (numeralL l).1 ≠ l.length then 0 else (numeralL l).2 := by
  have hle := numeralL_le l
  unfold kindL numberL
  by_cases h0 : (numeralL l).1 = 0
  · have h2 : (numeralL l).2 = 0 := by
      unfold numeralL at h0 ⊢
      split
      · rfl
      · rename_i hw
        rw [if_neg hw] at h0
        simp only at h0
        omega
    rw [if_pos h0]
    simp only [h0, h2]
    split <;> split <;> rfl
  · rw [if_neg h0]
    cases hb : behindB (l.drop (numeralL l).1)
    · simp only [Bool.false_eq_true, if_false]
      by_cases hl : (numeralL l).1 < l.length
      · rw [if_pos hl, if_pos (by omega)]
      · rw [if_neg hl, if_neg (by omega)]
    · have hne : l.drop (numeralL l).1 ≠ [] := by intro e; rw [e] at hb; cases hb
      have : (numeralL l).1 ≠ l.length := fun e => hne (by rw [e]; simp)
      simp only [if_true]
      rw [if_pos this]
      split <;> rfl

/-- A plain byte of a source text. -/
def ascB (b : UInt8) : Bool := srcB (b.toNat : Int) && decide (b.toNat < 128)
theorem dec_ascii {b : UInt8} (t : List UInt8) (h : b.toNat < 128) : dec (b :: t) = ((b.toNat : Int), 1) := by
  have h0 : byt (b :: t) 0 = (b.toNat : Int) := rfl
  refine dec_of (k := 0) (by omega) (by simp) ?_ rfl ?_ ?_
  · rw [h0]; unfold leads; simp [lead, wide]; omega
  · show byt (b :: t) 0 - lead 0 = _; rw [h0]; simp [lead]
  · unfold fair least halfB; simp; omega
theorem source_cons {b : UInt8} (t : List UInt8) (h : b.toNat < 128) : sourceB (b :: t) = (srcB (b.toNat : Int) && sourceB t) := by
  unfold sourceB
  rw [eachP_step (by simp) (by rw [dec_ascii t h]; simp), dec_ascii t h]
  rfl
theorem good_cons {b : UInt8} (t : List UInt8) (h : b.toNat < 128) : goodB (b :: t) = goodB t := by
  unfold goodB
  rw [eachP_step (by simp) (by rw [dec_ascii t h]; simp), dec_ascii t h]
  simp
theorem source_ascii : ∀ {l : List UInt8}, l.all ascB = true → sourceB l = true := by
  intro l
  induction l with
  | nil => intro _; rfl
  | cons b t ih =>
    intro h
    simp only [List.all_cons, Bool.and_eq_true] at h
    have h1 := h.1
    unfold ascB at h1
    simp only [Bool.and_eq_true, decide_eq_true_eq] at h1
    rw [source_cons t h1.2, h1.1, ih h.2]
    rfl
theorem good_of_source {l : List UInt8} (h : sourceB l = true) : goodB l = true := by
  unfold sourceB eachP at h
  unfold goodB eachP
  cases hc : codes l with
  | none => rw [hc] at h; cases h
  | some cs => simp
theorem source_append {a : List UInt8} (ha : sourceB a = true) (b : List UInt8) : sourceB (a ++ b) = sourceB b := by
  unfold sourceB eachP at *
  cases hc : codes a with
  | none => rw [hc] at ha; cases ha
  | some cs =>
    rw [hc] at ha
    simp only at ha
    rw [codes_append hc]
    cases codes b with
    | none => rfl
    | some ds => simp only [Option.map_some, List.all_append, ha, Bool.true_and]

/- Which byte begins what. -/
theorem num_byte : ∀ b : UInt8, (b == 45 || digU b) = true → isMark b = false ∧ letU b = false ∧ isGap b = false ∧ (b == 35) = false ∧ b ≠ 46 ∧ b ≠ 239 ∧ b ≠ 34 ∧ ascB b = true := byte_all (by decide +kernel)
theorem digU_asc : ∀ b : UInt8, digU b = true → ascB b = true := byte_all (by decide +kernel)
theorem nameU_asc : ∀ b : UInt8, nameU b = true → ascB b = true := byte_all (by decide +kernel)
theorem isMark_asc : ∀ b : UInt8, isMark b = true → ascB b = true := byte_all (by decide +kernel)
theorem pre_ne {a : UInt8} {p : List UInt8} {b : UInt8} {t : List UInt8} (h : b ≠ a) : pre (a :: p) (b :: t) = false := by
  unfold pre
  rw [List.isPrefixOf_cons_cons]
  have : (a == b) = false := by simpa using fun e => h e.symm
  rw [this, Bool.false_and]
theorem runL_take (l : List UInt8) : (l.take (runL l)).all digU = true := by
  unfold runL
  rw [← List.prefix_iff_eq_take.1 (List.takeWhile_prefix digU)]
  exact List.all_takeWhile
theorem all_add {p : UInt8 → Bool} {l : List UInt8} {a b : Nat} (h1 : (l.take a).all p = true) (h2 : ((l.drop a).take b).all p = true) : (l.take (a + b)).all p = true := by
  rw [List.take_add, List.all_append, h1, h2]; rfl
theorem all_imp {p q : UInt8 → Bool} (h : ∀ b, p b = true → q b = true) {l : List UInt8} (hl : l.all p = true) : l.all q = true := by
  rw [List.all_eq_true] at *
  exact fun x hx => h x (hl x hx)
theorem fracL_asc (l : List UInt8) : (l.take (fracL l)).all ascB = true := by
  cases l with
  | nil => rfl
  | cons b t =>
    simp only [fracL]
    split
    · rename_i h
      have hb : b = 46 := by simpa using h
      subst hb
      split
      · rfl
      · refine all_add (a := 1) (by simp; decide) ?_
        exact all_imp digU_asc (runL_take t)
    · rfl
theorem signL_asc (l : List UInt8) : (l.take (signL l)).all ascB = true := by
  cases l with
  | nil => rfl
  | cons b t =>
    simp only [signL]
    split
    · rename_i h
      have hb : ∀ b : UInt8, (b == 43 || b == 45) = true → ascB b = true := byte_all (by decide +kernel)
      simp [hb b h]
    · rfl
theorem expoL_asc (l : List UInt8) : (l.take (expoL l)).all ascB = true := by
  cases l with
  | nil => rfl
  | cons b t =>
    simp only [expoL]
    split
    · rename_i h
      have hb : ∀ b : UInt8, (b == 101 || b == 69) = true → ascB b = true := byte_all (by decide +kernel)
      split
      · rfl
      · rw [Nat.add_assoc]
        refine all_add (a := 1) (by simp [hb b h]) ?_
        exact all_add (signL_asc t) (all_imp digU_asc (runL_take _))
    · rfl
theorem wholeL_asc (l : List UInt8) : (l.take (wholeL l)).all ascB = true := by
  cases l with
  | nil => rfl
  | cons b t =>
    simp only [wholeL]
    split
    · rename_i h
      have hb : b = 48 := by simpa using h
      subst hb
      simp
      decide
    · exact all_imp digU_asc (runL_take _)
theorem minusL_asc (l : List UInt8) : (l.take (minusL l)).all ascB = true := by
  cases l with
  | nil => rfl
  | cons b t =>
    simp only [minusL]
    split
    · rename_i h
      have hb : b = 45 := by simpa using h
      subst hb
      simp
      decide
    · rfl
theorem numeralL_asc (l : List UInt8) : (l.take (numeralL l).1).all ascB = true := by
  unfold numeralL
  split
  · rfl
  · exact all_add (all_add (all_add (minusL_asc l) (wholeL_asc _)) (fracL_asc _)) (expoL_asc _)
theorem numeralL_head {l : List UInt8} (h : (numeralL l).1 ≠ 0) : ∃ b t, l = b :: t ∧ (b == 45 || digU b) = true := by
  cases l with
  | nil => exact absurd (by rfl) h
  | cons b t =>
    refine ⟨b, t, rfl, ?_⟩
    by_cases hb : (b == 45) = true
    · rw [hb]; rfl
    · have hb' : (b == 45) = false := by simpa using hb
      rw [hb', Bool.false_or]
      have hm : minusL (b :: t) = 0 := by simp only [minusL]; rw [if_neg hb]
      have hw : wholeL (b :: t) ≠ 0 := by
        intro hw
        apply h
        unfold numeralL
        rw [hm, List.drop_zero, if_pos hw]
      simp only [wholeL] at hw
      by_cases h48 : (b == 48) = true
      · have : b = 48 := by simpa using h48
        subst this
        decide
      · rw [if_neg h48] at hw
        unfold runL at hw
        rw [List.takeWhile_cons] at hw
        by_cases hd : digU b = true
        · exact hd
        · rw [if_neg hd] at hw
          exact absurd rfl hw
theorem number_cases {l : List UInt8} (h : (numberL l).1 ≠ 0) : (numberL l) = numeralL l ∧ behindB (l.drop (numeralL l).1) = false ∧ (numeralL l).1 ≠ 0 := by
  unfold numberL at *
  by_cases h0 : (numeralL l).1 = 0
  · rw [if_pos h0] at h; exact absurd rfl h
  · rw [if_neg h0] at *
    cases hb : behindB (l.drop (numeralL l).1)
    · simp [h0]
    · rw [hb] at h; exact absurd rfl h
theorem tok_number {l : List UInt8} (h : (numberL l).1 ≠ 0) : gapL l = 0 ∧ tokL l = some (((numberL l).2, l.take (numberL l).1), (numberL l).1) := by
  obtain ⟨_, _, h0⟩ := number_cases h
  obtain ⟨b, t, rfl, hb⟩ := numeralL_head h0
  obtain ⟨h1, h2, h3, h4, h5, h6, h7, _⟩ := num_byte b hb
  have g : gapL (b :: t) = 0 := by simp [gapL, h3, h4, pre_ne h6]
  have m : markN (b :: t) = 0 := by simp [markN, h1, pre_ne h5]
  have w : wordN (b :: t) = 0 := by simp [wordN, h2]
  refine ⟨g, ?_⟩
  unfold tokL
  rw [if_neg (by rw [m]; simp), if_neg (by rw [w]; simp), if_pos h]
theorem numeral_kind {l : List UInt8} (h : (numeralL l).1 ≠ 0) : (numeralL l).2 = 3 ∨ (numeralL l).2 = 4 := by
  unfold numeralL at *
  split
  · rename_i hw; rw [if_pos hw] at h; exact absurd rfl h
  · simp only; split <;> simp
/-- A text that is a number reads as that one token, and is a source text. -/
theorem numbers_yes {l : List UInt8} (h : kindL l ≠ 0) : readL l = some [(kindL l, l)] ∧ sourceB l = true ∧ (kindL l = 3 ∨ kindL l = 4) := by
  have hle := numberL_le l
  have h1 : ¬ (numberL l).1 < l.length := by
    intro hl
    unfold kindL at h
    rw [if_pos hl] at h
    exact h rfl
  have hk : kindL l = (numberL l).2 := by unfold kindL; rw [if_neg h1]
  have hn : (numberL l).1 ≠ 0 := by
    intro h0
    rw [hk] at h
    apply h
    unfold numberL at h0 ⊢
    by_cases hz : (numeralL l).1 = 0
    · rw [if_pos hz]
    · rw [if_neg hz] at h0 ⊢
      cases hb : behindB (l.drop (numeralL l).1)
      · rw [hb] at h0; exact absurd h0 hz
      · rfl
  have hlen : (numberL l).1 = l.length := by omega
  obtain ⟨e, _, hz⟩ := number_cases hn
  obtain ⟨g, t⟩ := tok_number hn
  refine ⟨?_, ?_, ?_⟩
  · rw [readL_tok g (by intro e; subst e; exact hn rfl) t, hlen, hk]
    simp [readL_nil]
  · have := numeralL_asc l
    rw [← e, hlen, List.take_length] at this
    exact source_ascii this
  · rw [hk, e]; exact numeral_kind hz
/-- A text that reads as one token of a number's kind, which is the whole text, is a number. -/
theorem read_first : ∀ (n : Nat) (l : List UInt8) (k : Int) (x : List UInt8) (r : List (Int × List UInt8)), l.length ≤ n → readL l = some ((k, x) :: r) → k = 3 ∨ k = 4 → ∃ j, j ≤ l.length ∧ (numberL (l.drop j)).1 ≠ 0 ∧ k = (numberL (l.drop j)).2 ∧ x = (l.drop j).take (numberL (l.drop j)).1 := by
  intro n
  induction n with
  | zero =>
    intro l k x r hl h
    have : l = [] := List.eq_nil_of_length_eq_zero (by omega)
    subst this
    rw [readL_nil] at h
    cases h
  | succ n ih =>
    intro l k x r hl h hk
    by_cases hg : gapL l = 0
    · by_cases hn : l = []
      · subst hn; rw [readL_nil] at h; cases h
      · cases ht : tokL l with
        | none => rw [readL_none hg hn ht] at h; cases h
        | some p =>
          rw [readL_tok hg hn ht] at h
          obtain ⟨q, _, hq⟩ := Option.map_eq_some_iff.1 h
          injection hq with hp _
          unfold tokL at ht
          split at ht
          · injection ht with ht; subst ht; injection hp with h1 _; omega
          · split at ht
            · injection ht with ht; subst ht; injection hp with h1 _; omega
            · split at ht
              · rename_i hnz
                injection ht with ht; subst ht; injection hp with h1 h2
                exact ⟨0, Nat.zero_le _, hnz, h1.symm, h2.symm⟩
              · obtain ⟨q, _, rfl⟩ := Option.map_eq_some_iff.1 ht
                injection hp with h1 _
                omega
    · rw [readL_gap hg] at h
      have := gapL_le l
      obtain ⟨j, hj, h1, h2, h3⟩ := ih (l.drop (gapL l)) k x r (by simp only [List.length_drop]; omega) h hk
      rw [List.drop_drop] at h1 h2 h3
      exact ⟨gapL l + j, by simp only [List.length_drop] at hj; omega, h1, h2, h3⟩
theorem numbers_no {l : List UInt8} (h : kindL l = 0) {k : Int} {x : List UInt8} (hr : readL l = some [(k, x)]) (hx : x = l) : ¬ (k = 3 ∨ k = 4) := by
  intro hk
  obtain ⟨j, hj, h1, h2, h3⟩ := read_first l.length l k x [] (Nat.le_refl _) hr hk
  have hle := numberL_le (l.drop j)
  subst hx
  have hlen := congrArg List.length h3
  simp only [List.length_take, List.length_drop] at hlen hle
  have hj0 : j = 0 := by omega
  subst hj0
  rw [List.drop_zero] at *
  unfold kindL at h
  rw [if_neg (by omega)] at h
  omega
end Go.Proofs.YtcfdfgbobnocnaaGreatDoor
