/- Plain facts on lines of bytes, of no program: lines, how far they stand in, what a block says. -/
import Derived.Test.YtcfdfgbobnocnaaGreatDoorCodes
import Derived.Lib.RuneBytes
import Derived.Lib.Strings
namespace Go.Proofs.YtcfdfgbobnocnaaGreatDoor

/-- The code points of units; none, if they are no text. -/
def pairUp : List Int → Option (List Int)
  | [] => some []
  | [c] => if c < 0 ∨ 65536 ≤ c ∨ halfB c = true then none else some [c]
  | c :: d :: t => if c < 0 ∨ 65536 ≤ c then none else if halfB c = true then (if pairB c d = true then (pairUp t).map ((65536 + 1024 * (c - 55296) + d - 56320) :: ·) else none) else (pairUp (d :: t)).map (c :: ·)
/-- The bytes of code points. -/
def bytesOf (cs : List Int) : List UInt8 := cs.flatMap Lib.encodeRune
/-- The text of units. -/
def joinL (l : List Int) : Option (List UInt8) := (pairUp l).map bytesOf
/-- A code point's units. -/
def unitOf (c : Int) : List Int := if c < 65536 then [c] else [55296 + (c - 65536) / 1024, 56320 + (c - 65536) % 1024]
def unitsOf (cs : List Int) : List Int := cs.flatMap unitOf
/-- A code point that may be encoded. -/
def okB (c : Int) : Bool := decide (0 ≤ c ∧ c ≤ 1114111 ∧ halfB c = false)

theorem pairUp_one {c : Int} {t : List Int} (h0 : ¬ c < 0) (h1 : ¬ 65536 ≤ c) (h2 : halfB c = false) : pairUp (c :: t) = (pairUp t).map (c :: ·) := by
  cases t with
  | nil => simp [pairUp, h0, h1, h2]
  | cons d t => simp [pairUp, h0, h1, h2]
theorem pairUp_two {c d : Int} {t : List Int} (h0 : ¬ c < 0) (h1 : ¬ 65536 ≤ c) (h2 : halfB c = true) (h3 : pairB c d = true) : pairUp (c :: d :: t) = (pairUp t).map ((65536 + 1024 * (c - 55296) + d - 56320) :: ·) := by
  simp [pairUp, h0, h1, h2, h3]
theorem pairUp_range {c : Int} {t : List Int} (h : c < 0 ∨ 65536 ≤ c) : pairUp (c :: t) = none := by
  cases t with
  | nil => simp only [pairUp]; rw [if_pos (by rcases h with h | h; exact .inl h; exact .inr (.inl h))]
  | cons d t => simp only [pairUp]; rw [if_pos h]
theorem pairUp_end {c : Int} (h : halfB c = true) : pairUp [c] = none := by
  simp [pairUp, h]
theorem pairUp_odd {c d : Int} {t : List Int} (h2 : halfB c = true) (h3 : pairB c d = false) : pairUp (c :: d :: t) = none := by
  simp [pairUp, h2, h3]
theorem pairUp_nil : pairUp [] = some [] := rfl

/-- What units are, is a list of code points that may be encoded, and these are those units. -/
theorem units_of_pairUp : ∀ (n : Nat) (l cs : List Int), l.length ≤ n → pairUp l = some cs → unitsOf cs = l ∧ cs.all okB = true := by
  intro n
  induction n with
  | zero =>
    intro l cs hl h
    have : l = [] := List.eq_nil_of_length_eq_zero (by omega)
    subst this
    simp only [pairUp, Option.some.injEq] at h
    subst h
    exact ⟨rfl, rfl⟩
  | succ n ih =>
    intro l cs hl h
    cases l with
    | nil =>
      simp only [pairUp, Option.some.injEq] at h
      subst h
      exact ⟨rfl, rfl⟩
    | cons c t =>
      by_cases hr : c < 0 ∨ 65536 ≤ c
      · rw [pairUp_range hr] at h; cases h
      · cases hh : halfB c
        · rw [pairUp_one (by omega) (by omega) hh] at h
          obtain ⟨cs', h', rfl⟩ := Option.map_eq_some_iff.1 h
          obtain ⟨a, b⟩ := ih t cs' (by simp at hl; omega) h'
          refine ⟨?_, ?_⟩
          · have : unitOf c = [c] := by unfold unitOf; rw [if_pos (by omega)]
            show unitOf c ++ unitsOf cs' = _
            rw [this, a]; rfl
          · rw [List.all_cons, b, Bool.and_true]
            simp [okB, hh]; omega
        · cases t with
          | nil => rw [pairUp_end hh] at h; cases h
          | cons d t =>
            cases hp : pairB c d
            · rw [pairUp_odd hh hp] at h; cases h
            · rw [pairUp_two (by omega) (by omega) hh hp] at h
              obtain ⟨cs', h', rfl⟩ := Option.map_eq_some_iff.1 h
              obtain ⟨a, b⟩ := ih t cs' (by simp at hl; omega) h'
              have hp' : 55296 ≤ c ∧ c < 56320 ∧ 56320 ≤ d ∧ d ≤ 57343 := by simpa [pairB] using hp
              refine ⟨?_, ?_⟩
              · have : unitOf (65536 + 1024 * (c - 55296) + d - 56320) = [c, d] := by
                  unfold unitOf
                  rw [if_neg (by omega)]
                  congr 1
                  · omega
                  · congr 1; omega
                show unitOf _ ++ unitsOf cs' = _
                rw [this, a]; rfl
              · rw [List.all_cons, b, Bool.and_true]
                simp [okB, halfB]; omega
theorem pairUp_units : ∀ (cs : List Int), cs.all okB = true → pairUp (unitsOf cs) = some cs := by
  intro cs
  induction cs with
  | nil => intro _; rfl
  | cons c cs ih =>
    intro h
    rw [List.all_cons, Bool.and_eq_true] at h
    have hok : 0 ≤ c ∧ c ≤ 1114111 ∧ halfB c = false := by simpa [okB] using h.1
    show pairUp (unitOf c ++ unitsOf cs) = _
    unfold unitOf
    by_cases h6 : c < 65536
    · rw [if_pos h6]
      show pairUp (c :: unitsOf cs) = _
      rw [pairUp_one (by omega) (by omega) hok.2.2, ih h.2]; rfl
    · rw [if_neg h6]
      show pairUp (_ :: _ :: unitsOf cs) = _
      rw [pairUp_two (by omega) (by omega) (by simp [halfB]; omega) (by simp [pairB]; omega), ih h.2]
      simp only [Option.map_some, Option.some.injEq]
      congr 1
      omega

/- UTF-8: BOTH WAYS -/
theorem byt_cons_zero (b : UInt8) (t : List UInt8) : byt (b :: t) 0 = (b.toNat : Int) := rfl
theorem byt_cons_succ (b : UInt8) (t : List UInt8) (k : Nat) : byt (b :: t) (k + 1) = byt t k := rfl
theorem toNat_ofInt {x : Int} (h0 : 0 ≤ x) (h1 : x < 256) : ((x.toNat.toUInt8).toNat : Int) = x := by
  obtain ⟨n, rfl⟩ := Int.eq_ofNat_of_zero_le h0
  simp [Nat.toUInt8, UInt8.toNat_ofNat']
  omega
theorem eq_of_num {a b : UInt8} (h : (a.toNat : Int) = (b.toNat : Int)) : a = b := UInt8.toNat_inj.1 (by omega)

theorem leads_inj {j k : Nat} {a : Int} (hj : j < 4) (hk : k < 4) (h1 : leads j a) (h2 : leads k a) : j = k := by
  unfold leads at h1 h2
  match j, hj, k, hk with
  | 0, _, 0, _ | 1, _, 1, _ | 2, _, 2, _ | 3, _, 3, _ => rfl
  | 0, _, 1, _ | 0, _, 2, _ | 0, _, 3, _ | 1, _, 0, _ | 1, _, 2, _ | 1, _, 3, _ | 2, _, 0, _ | 2, _, 1, _ | 2, _, 3, _ | 3, _, 0, _ | 3, _, 1, _ | 3, _, 2, _ =>
    simp only [lead, wide] at h1 h2; omega
theorem dec_of {l : List UInt8} {k : Nat} {c : Int} (hk : k < 4) (h1 : k < l.length) (h2 : leads k (byt l 0)) (h3 : contTo l (k + 1) = true) (ha : acc l (byt l 0 - lead k) (k + 1) = c) (h4 : fair k c) : dec l = (c, (k : Int) + 1) := by
  subst ha
  exact dec_some hk (fun j hj => decK_leads (fun h => by have := leads_inj (by omega) hk h h2; omega)) (decK_yes h1 h2 h3 h4)
theorem contB_yes {b : Int} (h0 : 128 ≤ b) (h1 : b ≤ 191) : contB b = true := by simp [contB, h0, h1]

/-- What is encoded is read, whatever stands behind it. -/
theorem dec_encode {c : Int} (h : okB c = true) (t : List UInt8) : dec (Lib.encodeRune c ++ t) = (c, ((Lib.encodeRune c).length : Int)) := by
  have hok : 0 ≤ c ∧ c ≤ 1114111 ∧ halfB c = false := by simpa [okB] using h
  obtain ⟨h0, h1, h2⟩ := hok
  have hh : ¬ (55296 ≤ c ∧ c ≤ 57343) := by simpa [halfB] using h2
  by_cases a1 : c ≤ 127
  · have e : Lib.encodeRune c = [c.toNat.toUInt8] := by simp [Lib.encodeRune, Lib.encodeRuneZ_one h0 a1]
    rw [e]
    have b0 : byt ([c.toNat.toUInt8] ++ t) 0 = c := toNat_ofInt h0 (by omega)
    have hl : 1 ≤ ([c.toNat.toUInt8] ++ t).length := by simp
    generalize [c.toNat.toUInt8] ++ t = l at *
    exact dec_of (k := 0) (by omega) (by omega) (by rw [b0]; simp only [leads, lead, wide]; omega) rfl (by rw [b0]; simp [acc, lead]) ⟨h0, h1, h2⟩
  by_cases a2 : c ≤ 2047
  · have e : Lib.encodeRune c = [(192 + c / 64).toNat.toUInt8, (128 + c % 64).toNat.toUInt8] := by simp [Lib.encodeRune, Lib.encodeRuneZ_two (by omega) a2]
    rw [e]
    generalize hx : (192 + c / 64).toNat.toUInt8 = x
    generalize hy : (128 + c % 64).toNat.toUInt8 = y
    have b0 : byt ([x, y] ++ t) 0 = 192 + c / 64 := by rw [← hx]; exact toNat_ofInt (by omega) (by omega)
    have b1 : byt ([x, y] ++ t) 1 = 128 + c % 64 := by rw [← hy]; exact toNat_ofInt (by omega) (by omega)
    have hl : 2 ≤ ([x, y] ++ t).length := by simp
    generalize [x, y] ++ t = l at *
    refine dec_of (k := 1) (by omega) (by omega) (by rw [b0]; simp only [leads, lead, wide]; omega) ?_ ?_ ⟨by simp only [least]; omega, h1, h2⟩
    · simp only [contTo, b1, Bool.true_and]; exact contB_yes (by omega) (by omega)
    · simp only [acc, b0, b1, lead]; omega
  by_cases a3 : c ≤ 65535
  · have e : Lib.encodeRune c = [(224 + c / 4096).toNat.toUInt8, (128 + c / 64 % 64).toNat.toUInt8, (128 + c % 64).toNat.toUInt8] := by simp [Lib.encodeRune, Lib.encodeRuneZ_three (show (2048 ≤ c ∧ c < 55296) ∨ (57343 < c ∧ c ≤ 65535) by omega)]
    rw [e]
    generalize hx : (224 + c / 4096).toNat.toUInt8 = x
    generalize hy : (128 + c / 64 % 64).toNat.toUInt8 = y
    generalize hz : (128 + c % 64).toNat.toUInt8 = z
    have b0 : byt ([x, y, z] ++ t) 0 = 224 + c / 4096 := by rw [← hx]; exact toNat_ofInt (by omega) (by omega)
    have b1 : byt ([x, y, z] ++ t) 1 = 128 + c / 64 % 64 := by rw [← hy]; exact toNat_ofInt (by omega) (by omega)
    have b2 : byt ([x, y, z] ++ t) 2 = 128 + c % 64 := by rw [← hz]; exact toNat_ofInt (by omega) (by omega)
    have hl : 3 ≤ ([x, y, z] ++ t).length := by simp
    generalize [x, y, z] ++ t = l at *
    refine dec_of (k := 2) (by omega) (by omega) (by rw [b0]; simp only [leads, lead, wide]; omega) ?_ ?_ ⟨by simp only [least]; omega, h1, h2⟩
    · simp only [contTo, b1, b2, Bool.true_and]; rw [contB_yes (by omega) (by omega), contB_yes (by omega) (by omega)]; rfl
    · simp only [acc, b0, b1, b2, lead]; omega
  · have e : Lib.encodeRune c = [(240 + c / 262144).toNat.toUInt8, (128 + c / 4096 % 64).toNat.toUInt8, (128 + c / 64 % 64).toNat.toUInt8, (128 + c % 64).toNat.toUInt8] := by simp [Lib.encodeRune, Lib.encodeRuneZ_four (show 65536 ≤ c by omega) h1]
    rw [e]
    generalize hx : (240 + c / 262144).toNat.toUInt8 = x
    generalize hy : (128 + c / 4096 % 64).toNat.toUInt8 = y
    generalize hz : (128 + c / 64 % 64).toNat.toUInt8 = z
    generalize hu : (128 + c % 64).toNat.toUInt8 = u
    have b0 : byt ([x, y, z, u] ++ t) 0 = 240 + c / 262144 := by rw [← hx]; exact toNat_ofInt (by omega) (by omega)
    have b1 : byt ([x, y, z, u] ++ t) 1 = 128 + c / 4096 % 64 := by rw [← hy]; exact toNat_ofInt (by omega) (by omega)
    have b2 : byt ([x, y, z, u] ++ t) 2 = 128 + c / 64 % 64 := by rw [← hz]; exact toNat_ofInt (by omega) (by omega)
    have b3 : byt ([x, y, z, u] ++ t) 3 = 128 + c % 64 := by rw [← hu]; exact toNat_ofInt (by omega) (by omega)
    have hl : 4 ≤ ([x, y, z, u] ++ t).length := by simp
    generalize [x, y, z, u] ++ t = l at *
    refine dec_of (k := 3) (by omega) (by omega) (by rw [b0]; simp only [leads, lead, wide]; omega) ?_ ?_ ⟨by simp only [least]; omega, h1, h2⟩
    · simp only [contTo, b1, b2, b3, Bool.true_and]; rw [contB_yes (by omega) (by omega), contB_yes (by omega) (by omega), contB_yes (by omega) (by omega)]; rfl
    · simp only [acc, b0, b1, b2, b3, lead]; omega

theorem ofNum {b : UInt8} {x : Int} (h : (b.toNat : Int) = x) : x.toNat.toUInt8 = b := by
  subst h; simp
set_option maxRecDepth 10000 in
/-- What is read is encoded so. -/
theorem encode_dec {l : List UInt8} (h : (dec l).2 ≠ 0) : Lib.encodeRune (dec l).1 = l.take (dec l).2.toNat := by
  rcases dec_cases l with ⟨_, h'⟩ | ⟨k, hk, _, h'⟩
  · rw [h'] at h; exact absurd rfl h
  · obtain ⟨e2, hlen, h0, hf⟩ := decK_bd hk h'
    have hp := h'
    unfold decK at hp
    split at hp
    · rename_i hc
      obtain ⟨_, hL, hC, _⟩ := hc
      injection hp with hp
      have e1 : (dec l).1 = acc l (byt l 0 - lead k) (k + 1) := by rw [← hp]
      rw [e2, show ((k : Int) + 1).toNat = k + 1 from by omega]
      unfold fair at hf
      generalize (dec l).1 = c at *
      clear h h' hp e2
      have hh : ¬ (55296 ≤ c ∧ c ≤ 57343) := by simpa [halfB] using hf.2.2
      have hcb : ∀ b : Int, contB b = true → 128 ≤ b ∧ b ≤ 191 := fun b hb => by simpa [contB] using hb
      match k, hk with
      | 0, _ =>
        match l, hlen with
        | x :: t, _ =>
          simp only [acc, byt_cons_zero, lead, leads, wide] at e1 hL
          rw [Lib.encodeRune, Lib.encodeRuneZ_one h0 (by omega)]
          simp only [List.map, List.take_succ_cons, List.take_zero]
          rw [ofNum (b := x) (by omega)]
      | 1, _ =>
        match l, hlen with
        | x :: y :: t, _ =>
          simp only [acc, byt_cons_zero, byt_cons_succ, lead, leads, wide, contTo, Bool.true_and] at e1 hL hC
          have c1 := hcb _ hC
          simp only [least] at hf
          rw [Lib.encodeRune, Lib.encodeRuneZ_two (by omega) (by omega)]
          simp only [List.map, List.take_succ_cons, List.take_zero]
          rw [ofNum (b := x) (by omega), ofNum (b := y) (by omega)]
      | 2, _ =>
        match l, hlen with
        | x :: y :: z :: t, _ =>
          simp only [acc, byt_cons_zero, byt_cons_succ, lead, leads, wide, contTo, Bool.true_and, Bool.and_eq_true] at e1 hL hC
          have c1 := hcb _ hC.1
          have c2 := hcb _ hC.2
          simp only [least] at hf
          rw [Lib.encodeRune, Lib.encodeRuneZ_three (by omega)]
          simp only [List.map, List.take_succ_cons, List.take_zero]
          rw [ofNum (b := x) (by omega), ofNum (b := y) (by omega), ofNum (b := z) (by omega)]
      | 3, _ =>
        match l, hlen with
        | x :: y :: z :: u :: t, _ =>
          simp only [acc, byt_cons_zero, byt_cons_succ, lead, leads, wide, contTo, Bool.true_and, Bool.and_eq_true] at e1 hL hC
          have c1 := hcb _ hC.1.1
          have c2 := hcb _ hC.1.2
          have c3 := hcb _ hC.2
          simp only [least] at hf
          rw [Lib.encodeRune, Lib.encodeRuneZ_four (by omega) (by omega)]
          simp only [List.map, List.take_succ_cons, List.take_zero]
          rw [ofNum (b := x) (by omega), ofNum (b := y) (by omega), ofNum (b := z) (by omega), ofNum (b := u) (by omega)]
    · cases hp
theorem encode_ne (c : Int) : Lib.encodeRune c ≠ [] := by
  have := (Lib.encodeRuneZ_length c).1
  intro e
  have h := congrArg List.length e
  simp [Lib.encodeRune] at h
  rw [h] at this
  simp at this
/-- The code points of the bytes of code points are these. -/
theorem codes_bytes : ∀ (cs : List Int) (t : List UInt8), cs.all okB = true → codes (bytesOf cs ++ t) = (codes t).map (cs ++ ·) := by
  intro cs
  induction cs with
  | nil => intro t _; show codes t = _; cases codes t <;> rfl
  | cons c cs ih =>
    intro t h
    rw [List.all_cons, Bool.and_eq_true] at h
    have e : bytesOf (c :: cs) ++ t = Lib.encodeRune c ++ (bytesOf cs ++ t) := by simp [bytesOf]
    have hd := dec_encode h.1 (bytesOf cs ++ t)
    have hne := encode_ne c
    have hpos : 0 < (Lib.encodeRune c).length := List.length_pos_iff.2 hne
    rw [e, codes_step (by simp [hne]) (by rw [hd]; show ((Lib.encodeRune c).length : Int) ≠ 0; omega), hd]
    show Option.map _ (codes (List.drop (((Lib.encodeRune c).length : Int)).toNat _)) = _
    rw [show (((Lib.encodeRune c).length : Int)).toNat = (Lib.encodeRune c).length from by omega, List.drop_left, ih t h.2]
    cases codes t <;> rfl
/-- A text is the bytes of its code points, and these may be encoded. -/
theorem bytes_codes : ∀ (n : Nat) (l : List UInt8) (cs : List Int), l.length ≤ n → codes l = some cs → bytesOf cs = l ∧ cs.all okB = true := by
  intro n
  induction n with
  | zero =>
    intro l cs hl h
    have : l = [] := List.eq_nil_of_length_eq_zero (by omega)
    subst this
    rw [codes_nil, Option.some.injEq] at h
    subst h
    exact ⟨rfl, rfl⟩
  | succ n ih =>
    intro l cs hl h
    by_cases hn : l = []
    · subst hn
      rw [codes_nil, Option.some.injEq] at h
      subst h
      exact ⟨rfl, rfl⟩
    · by_cases h0 : (dec l).2 = 0
      · rw [codes_bad hn h0] at h; cases h
      · rw [codes_step hn h0] at h
        obtain ⟨cs', h', rfl⟩ := Option.map_eq_some_iff.1 h
        have hb := dec_bd l
        obtain ⟨a, b⟩ := ih _ cs' (by rw [List.length_drop]; omega) h'
        refine ⟨?_, ?_⟩
        · show Lib.encodeRune (dec l).1 ++ bytesOf cs' = l
          rw [encode_dec h0, a, List.take_append_drop]
        · rw [List.all_cons, b, Bool.and_true]
          simp [okB, hb.2.2.2.2.2]; omega
theorem codes_append {l : List UInt8} {cs : List Int} (h : codes l = some cs) (t : List UInt8) : codes (l ++ t) = (codes t).map (cs ++ ·) := by
  obtain ⟨a, b⟩ := bytes_codes _ l cs (Nat.le_refl _) h
  conv => lhs; rw [← a]
  exact codes_bytes cs t b
end Go.Proofs.YtcfdfgbobnocnaaGreatDoor
namespace Go.Proofs.YtcfdfgbobnocnaaGreatDoor.Blk

/-- Does a byte end a line? -/
def eolB (c : UInt8) : Bool := c == 10 || c == 13
/-- The first line. -/
def firstL (l : List UInt8) : List UInt8 := l.takeWhile fun c => !eolB c
/-- What stands behind the end of the first line, if it has one. -/
def afterL (l : List UInt8) : Option (List UInt8) :=
  match l.dropWhile fun c => !eolB c with
  | [] => none
  | c :: t => if c = 13 then (match t with | d :: t' => if d = 10 then some t' else some t | [] => some t) else some t
def linesF : Nat → List UInt8 → List (List UInt8)
  | 0, l => [l]
  | n + 1, l => firstL l :: (match afterL l with | none => [] | some t => linesF n t)
/-- The lines of a text. -/
def linesL (l : List UInt8) : List (List UInt8) := linesF (l.length + 1) l

theorem dropWhile_len (p : UInt8 → Bool) : ∀ l : List UInt8, (l.dropWhile p).length ≤ l.length := by
  intro l
  induction l with
  | nil => simp
  | cons c t ih => rw [List.dropWhile_cons]; split <;> simp <;> omega
theorem afterL_len {l t : List UInt8} (h : afterL l = some t) : t.length < l.length := by
  unfold afterL at h
  have hl := dropWhile_len (fun c => !eolB c) l
  split at h
  · cases h
  · rename_i c r hd
    rw [hd] at hl
    simp only [List.length_cons] at hl
    split at h
    · split at h
      · split at h
        · cases h; simp only [List.length_cons] at hl; omega
        · cases h; simp only [List.length_cons] at hl ⊢; omega
      · cases h; simp only [List.length_nil] at hl ⊢; omega
    · cases h; omega
theorem linesF_enough : ∀ (n m : Nat) (l : List UInt8), l.length < n → l.length < m → linesF n l = linesF m l := by
  intro n
  induction n with
  | zero => intro m l h; omega
  | succ n ih =>
    intro m l hn hm
    cases m with
    | zero => omega
    | succ m =>
      simp only [linesF]
      cases ha : afterL l with
      | none => rfl
      | some t =>
        have := afterL_len ha
        simp only
        rw [ih m t (by omega) (by omega)]
theorem linesL_eq (l : List UInt8) : linesL l = firstL l :: (match afterL l with | none => [] | some t => linesL t) := by
  show linesF (l.length + 1) l = _
  simp only [linesF]
  cases ha : afterL l with
  | none => rfl
  | some t =>
    have := afterL_len ha
    simp only [linesL]
    rw [linesF_enough l.length (t.length + 1) t (by omega) (by omega)]

/-- A list of bytes none of which ends a line. -/
def plainL (l : List UInt8) : Prop := ∀ c ∈ l, eolB c = false
theorem takeWhile_plain {a : List UInt8} (h : plainL a) (r : List UInt8) : (a ++ r).takeWhile (fun c => !eolB c) = a ++ r.takeWhile (fun c => !eolB c) := by
  induction a with
  | nil => rfl
  | cons c a ih =>
    have hc := h c (by simp)
    rw [List.cons_append, List.takeWhile_cons, hc, List.cons_append]
    simp only [Bool.not_false, if_true]
    rw [ih (fun d hd => h d (by simp [hd]))]
theorem dropWhile_plain {a : List UInt8} (h : plainL a) (r : List UInt8) : (a ++ r).dropWhile (fun c => !eolB c) = r.dropWhile (fun c => !eolB c) := by
  induction a with
  | nil => rfl
  | cons c a ih =>
    have hc := h c (by simp)
    rw [List.cons_append, List.dropWhile_cons, hc]
    simp only [Bool.not_false, if_true]
    exact ih (fun d hd => h d (by simp [hd]))
/-- A text of one line. -/
theorem linesL_one {a : List UInt8} (h : plainL a) : linesL a = [a] := by
  have h1 := takeWhile_plain h []
  have h2 := dropWhile_plain h []
  rw [List.append_nil] at h1 h2
  rw [linesL_eq]
  unfold firstL afterL
  rw [h1, h2]
  simp
/-- A line that ends with a 10. -/
theorem linesL_ten {a r : List UInt8} (h : plainL a) : linesL (a ++ 10 :: r) = a :: linesL r := by
  rw [linesL_eq]
  unfold firstL afterL
  rw [takeWhile_plain h, dropWhile_plain h]
  simp [eolB]
/-- A line that ends with a 13 and a 10. -/
theorem linesL_both {a r : List UInt8} (h : plainL a) : linesL (a ++ 13 :: 10 :: r) = a :: linesL r := by
  rw [linesL_eq]
  unfold firstL afterL
  rw [takeWhile_plain h, dropWhile_plain h]
  simp [eolB]
/-- A line that ends with a 13 alone. -/
theorem linesL_cr {a r : List UInt8} (h : plainL a) (hr : r.head? ≠ some 10) : linesL (a ++ 13 :: r) = a :: linesL r := by
  rw [linesL_eq]
  unfold firstL afterL
  rw [takeWhile_plain h, dropWhile_plain h]
  cases r with
  | nil => simp [eolB]
  | cons d r =>
    have hd : d ≠ 10 := fun e => hr (by rw [e]; rfl)
    simp [eolB, hd]
theorem linesL_ne (l : List UInt8) : linesL l ≠ [] := by rw [linesL_eq]; simp
theorem takeWhile_all (l : List UInt8) : plainL (l.takeWhile fun c => !eolB c) := by
  intro c hc
  have := List.all_takeWhile (p := fun c => !eolB c) (l := l)
  rw [List.all_eq_true] at this
  simpa using this c hc
/-- No line has a line's end. -/
theorem linesL_plain : ∀ (n : Nat) (l : List UInt8), l.length < n → ∀ x ∈ linesL l, plainL x := by
  intro n
  induction n with
  | zero => intro l h; omega
  | succ n ih =>
    intro l hl x hx
    rw [linesL_eq] at hx
    cases ha : afterL l with
    | none =>
      rw [ha] at hx
      simp only [List.mem_cons, List.not_mem_nil, or_false] at hx
      rw [hx]; exact takeWhile_all l
    | some t =>
      rw [ha] at hx
      have := afterL_len ha
      simp only [List.mem_cons] at hx
      rcases hx with hx | hx
      · rw [hx]; exact takeWhile_all l
      · exact ih t (by omega) x hx

/- HOW FAR LINES STAND IN -/
def blankB (c : UInt8) : Bool := c == 9 || c == 32
/-- How many blanks stand at the front. -/
def leadN (l : List UInt8) : Nat := (l.takeWhile blankB).length
/-- Is there anything else? -/
def inkB (l : List UInt8) : Bool := l.any fun c => !blankB c
def stepI (out : Int) (x : List UInt8) : Int := if inkB x = true ∧ (out < 0 ∨ (leadN x : Int) < out) then (leadN x : Int) else out
/-- The least number of blanks ahead of what is said, over all lines but the first; -1 if there is none. -/
def indentL (ls : List (List UInt8)) : Int := (ls.drop 1).foldl stepI (-1)

/- WHAT A BLOCK SAYS -/
def cutL (n : Nat) : List (List UInt8) → List (List UInt8)
  | [] => []
  | x :: t => x :: t.map (List.drop n)
def frontL (ls : List (List UInt8)) : List (List UInt8) := ls.dropWhile fun x => !inkB x
def trimL (ls : List (List UInt8)) : List (List UInt8) := (frontL (frontL ls).reverse).reverse
def joinTen : List (List UInt8) → List UInt8
  | [] => []
  | [x] => x
  | x :: y :: t => x ++ 10 :: joinTen (y :: t)
def shownL (raw : List UInt8) : List (List UInt8) := trimL (cutL (max (indentL (linesL raw)) 0).toNat (linesL raw))
def valueL (raw : List UInt8) : List UInt8 := joinTen (shownL raw)

theorem linesL_join : ∀ (ts : List (List UInt8)), ts ≠ [] → (∀ x ∈ ts, plainL x) → linesL (joinTen ts) = ts := by
  intro ts
  induction ts with
  | nil => intro h; exact absurd rfl h
  | cons x t ih =>
    intro _ h
    cases t with
    | nil => exact linesL_one (h x (by simp))
    | cons y t =>
      show linesL (x ++ 10 :: joinTen (y :: t)) = _
      rw [linesL_ten (h x (by simp)), ih (by simp) (fun z hz => h z (by simp only [List.mem_cons] at hz ⊢; exact .inr hz))]
end Go.Proofs.YtcfdfgbobnocnaaGreatDoor.Blk
