/- The landed Type: what the reader of tokens refuses. -/
import Derived.Test.YtpkmbhnikilihaaGreatDoorQp9
namespace Go.Proofs.YtpkmbhnikilihaaGreatDoor
open Go.RowKit
theorem readS_names {s : ByteArray} (hs : s.size ≤ 9000) : NamesT (tokB (readS s.data.toList).1) := by
 unfold readS
 split
 · intro t ht; cases ht
 · split
   · intro t ht; cases ht
   · cases h : readL s.data.toList with
     | none => intro t ht; cases ht
     | some ts => exact read_names hs h
theorem readF_len : ∀ (n : Nat) (l : List UInt8) ts, readF n l = some ts → ts.length ≤ n
 | 0, _, _, h => by cases h
 | n + 1, l, ts, h => by
   rw [readF] at h
   split at h
   · exact Nat.le_succ_of_le (readF_len n _ ts h)
   · split at h
     · cases h; simp
     · cases hk : tokL l with
       | none => rw [hk] at h; cases h
       | some p =>
         rw [hk] at h
         cases hr : readF n (l.drop p.2) with
         | none => simp only [hr] at h; cases h
         | some us =>
           simp only [hr] at h
           have h := Option.some.inj h
           subst h
           have := readF_len n _ us hr
           simp; omega
theorem readS_len {s : ByteArray} (hs : s.size ≤ 9000) : (readS s.data.toList).1.length ≤ 9001 := by
 have h3 : s.data.toList.length = s.size := Array.length_toList
 unfold readS
 split
 · simp
 · split
   · simp
   · cases h : readL s.data.toList with
     | none => simp
     | some ts => have := readF_len _ _ ts h; show ts.length ≤ _; omega
theorem number_zero {l : List UInt8} (h : (nbL l).1 = 0) : (nbL l).2 = 0 := by
 unfold nbL at *
 by_cases h0 : (nmL l).1 = 0
 · rw [if_pos h0]
 · rw [if_neg h0] at h ⊢
   cases hb : behindB (l.drop (nmL l).1)
   · rw [hb] at h; exact absurd h h0
   · rfl
set_option maxRecDepth 100000 in
theorem numberf_any (s : ByteArray) (w : World) (hs : s.size ≤ 9000) : Calls Tryz.prog 135 #[.string s] w fun e w' => e = .returned (.int .i64 (kindL s.data.toList)) ∧ Below w.heap.size w w' := by
 have hN := number_any s w (by omega)
 have hk : kindL s.data.toList = if (nbL s.data.toList).1 < s.size then 0 else (nbL s.data.toList).2 := by unfold kindL; rw [len_data]
 have hz := fun h => number_zero (l := s.data.toList) h
 obtain ⟨n, hn⟩ : ∃ n, (nbL s.data.toList).1 = n := ⟨_, rfl⟩
 obtain ⟨k, hkk⟩ : ∃ k, (nbL s.data.toList).2 = k := ⟨_, rfl⟩
 rw [hn, hkk] at hN hk hz
 have hT : ∃ x : ByteArray, tokS k (s.data.toList.take n) n = .tuple #[.agg #[.int .i64 k, .string x], .int .i64 n] := by
   by_cases h0 : n = 0
   · rw [hz h0, h0]; exact ⟨_, rfl⟩
   · exact ⟨_, tokS_yes h0⟩
 obtain ⟨x, hx⟩ := hT
 rw [hx] at hN
 have HN := Hd hN
 clear hN hx hz hn hkk
 by_cases hlt : n < s.size
 · have hlt' : (n : Int) < (s.size : Int) := by omega
   have hr : Hid (kindL s.data.toList = 0) := Hd (by rw [hk, if_pos hlt])
   clear hk
   go_enter Tryz.func135, Tryz.ntmps135
   go_wp2_with fail
   refine HN.out.mono ?_
   rintro e w1 ⟨rfl, hb⟩
   have HB := Hd hb
   have hbs := hb.size
   clear hb
   go_wp2_with fail
   go_ret
   exact ⟨ret_i (by rw [hr.out]), HB.out.alloc hbs _⟩
 · have hlt' : ¬ (n : Int) < (s.size : Int) := by omega
   have hr : Hid (kindL s.data.toList = k) := Hd (by rw [hk, if_neg hlt])
   clear hk
   go_enter Tryz.func135, Tryz.ntmps135
   go_wp2_with fail
   refine HN.out.mono ?_
   rintro e w1 ⟨rfl, hb⟩
   have HB := Hd hb
   have hbs := hb.size
   clear hb
   go_wp2_with fail
   go_ret
   exact ⟨ret_i (by rw [hr.out]), HB.out.alloc hbs _⟩
def K3 (w wx : World) : Prop := Laid3 wx ∧ Below w.heap.size w wx
namespace LNumbers
end LNumbers
open Go.RowKit
def hexD (x : Int) : UInt8 := if x < 10 then (48 + x).toNat.toUInt8 else (87 + x).toNat.toUInt8
def hexText (u : Int) : List UInt8 := [92, 117, hexD (u / 4096 % 16), hexD (u / 256 % 16), hexD (u / 16 % 16), hexD (u % 16)]
theorem hexD_all : ∀ x : Fin 16, hexB (hexD (x.val : Int)) = true ∧ hexI (hexD (x.val : Int)) = (x.val : Int) ∧ ascB (hexD (x.val : Int)) = true := by decide +kernel
theorem hexD_ok {x : Int} (h0 : 0 ≤ x) (h1 : x < 16) : hexB (hexD x) = true ∧ hexI (hexD x) = x ∧ ascB (hexD x) = true := by
 obtain ⟨n, rfl⟩ := Int.eq_ofNat_of_zero_le h0
 exact hexD_all ⟨n, by omega⟩
theorem unit_text {u : Int} (h0 : 0 ≤ u) (h1 : u ≤ 65535) (r : List UInt8) : unitAt (hexText u ++ r) = some u := by
 obtain ⟨a1, a2, _⟩ := hexD_ok (x := u / 4096 % 16) (by omega) (by omega)
 obtain ⟨b1, b2, _⟩ := hexD_ok (x := u / 256 % 16) (by omega) (by omega)
 obtain ⟨c1, c2, _⟩ := hexD_ok (x := u / 16 % 16) (by omega) (by omega)
 obtain ⟨d1, d2, _⟩ := hexD_ok (x := u % 16) (by omega) (by omega)
 show unitAt (92 :: 117 :: _ :: _ :: _ :: _ :: r) = _
 rw [unit_pu]
 simp only [pu, a1, b1, c1, d1, a2, b2, c2, d2, if_true, Option.some.injEq]
 omega
theorem tok_quote (t : List UInt8) : gapL (34 :: t) = 0 ∧ tokL (34 :: t) = (quoteL (34 :: t)).map fun q => ((5, q.1), q.2) := by
 have g : gapL (34 :: t) = 0 := by simp [gapL, isGap, pre_ne (show (34 : UInt8) ≠ 239 by decide)]
 have m : markN (34 :: t) = 0 := by simp [markN, pre_ne (show (34 : UInt8) ≠ 46 by decide), show isMark 34 = false by decide]
 have w : wordN (34 :: t) = 0 := by simp [wordN, show letU 34 = false by decide]
 have n : (nbL (34 :: t)).1 = 0 := by
  by_cases h : (nbL (34 :: t)).1 = 0
  · exact h
  · obtain ⟨_, _, h0⟩ := number_cases h
    obtain ⟨b, t', e, hb⟩ := numeralL_head h0
    cases e
    exact absurd hb (by decide)
 refine ⟨g, ?_⟩
 unfold tokL
 rw [if_neg (by rw [m]; simp), if_neg (by rw [w]; simp), if_neg (by rw [n]; simp)]
theorem text_len : ∀ zs : List Int, (zs.flatMap hexText).length = 6 * zs.length := by
 intro zs
 induction zs with
 | nil => rfl
 | cons z zs ih => rw [List.flatMap_cons, List.length_append, ih, List.length_cons]; show 6 + _ = _; omega
theorem text_asc {zs : List Int} (h : ∀ z ∈ zs, 0 ≤ z ∧ z ≤ 65535) : (zs.flatMap hexText).all ascB = true := by
 rw [List.all_flatMap, List.all_eq_true]
 intro z hz
 have hz := h z hz
 have a := (hexD_ok (x := z / 4096 % 16) (by omega) (by omega)).2.2
 have b := (hexD_ok (x := z / 256 % 16) (by omega) (by omega)).2.2
 have c := (hexD_ok (x := z / 16 % 16) (by omega) (by omega)).2.2
 have d := (hexD_ok (x := z % 16) (by omega) (by omega)).2.2
 simp only [hexText, List.all_cons, List.all_nil, a, b, c, d]
 decide
theorem and_low4 {x : Int} (h0 : 0 ≤ x) (h1 : x < 9223372036854775808) : bits .and .i64 x 15 = x % 16 := by
 obtain ⟨a, rfl⟩ := Int.eq_ofNat_of_zero_le h0
 show IntKind.i64.wrap ((BitVec.ofInt 64 (a : Int) &&& BitVec.ofInt 64 ((15 : Nat) : Int)).toNat : Int) = _
 rw [BitVec.toNat_and, ofInt_i64 a (by omega), ofInt_i64 15 (by omega), show (15 : Nat) = 2 ^ 4 - 1 from rfl, Nat.and_two_pow_sub_one_eq_mod, IntKind.wrap_i64]
 omega
theorem take_text {zs : List Int} {i : Nat} {z : Int} (h : zs[i]? = some z) : (zs.take (i + 1)).flatMap hexText = (zs.take i).flatMap hexText ++ hexText z := by
 rw [List.take_add_one, h]
 simp [List.flatMap_append]
namespace LUnits
end LUnits
def printQ (c : Int) : List UInt8 :=
 if c = 34 then [92, 34] else if c = 92 then [92, 92] else if c = 10 then [92, 110] else if c < 32 ∨ 65535 < c then (unitOf c).flatMap hexText else Lib.encodeRune c
def quoteT (cs : List Int) : List UInt8 := 34 :: (cs.flatMap printQ ++ [34])
def codesT (x : List UInt8) : List Int := match codes x with | some cs => cs | none => []
def printT (t : Int × List UInt8) : List UInt8 := if t.1 = 5 then quoteT (codesT t.2) else t.2
def rightB (t : Int × List UInt8) : Bool :=
 if t.1 = 1 then decide (0 < markN t.2 ∧ markN t.2 = t.2.length) else if t.1 = 2 then nameB t.2 else if t.1 = 3 ∨ t.1 = 4 then decide (kindL t.2 = t.1) else if t.1 = 5 then goodB t.2 else false
def endB (r : List UInt8) : Prop := r = [] ∨ ∃ r', r = 32 :: r'
theorem toNat_byte {z : Int} (h0 : 0 ≤ z) (h1 : z < 256) : ((z.toNat.toUInt8).toNat : Int) = z := toNat_ofInt h0 h1
theorem enc_high {c : Int} (h : 128 ≤ c) : ∀ b ∈ Lib.encodeRune c, 128 ≤ b.toNat := by
 intro b hb
 unfold Lib.encodeRune at hb
 obtain ⟨z, hz, rfl⟩ := List.mem_map.1 hb
 have hb := Lib.encodeRuneZ_byte c z hz
 have hz2 : 128 ≤ z := by
  unfold Lib.encodeRuneZ at hz
  split at hz
  · omega
  · split at hz
    · simp at hz; omega
    · split at hz
      · simp at hz; omega
      · split at hz
        · simp at hz; omega
        · simp at hz; omega
 have := toNat_byte hb.1 hb.2
 omega
theorem enc_low {c : Int} (h0 : 0 ≤ c) (h1 : c < 128) : Lib.encodeRune c = [c.toNat.toUInt8] := by
 unfold Lib.encodeRune
 rw [Lib.encodeRuneZ_one h0 (by omega)]
 rfl
def selfB (b : UInt8) : Bool := !(b == 34) && !(b == 10) && !(b == 13) && !(b == 92)
theorem self_high : ∀ b : UInt8, 128 ≤ b.toNat → selfB b = true := byte_all (by decide +kernel)
theorem self_low : ∀ b : UInt8, (b.toNat : Int) ≠ 34 → (b.toNat : Int) ≠ 92 → 32 ≤ b.toNat → selfB b = true := byte_all (by decide +kernel)
theorem enc_self {c : Int} (h0 : 32 ≤ c) (h1 : c ≤ 65535) (a : c ≠ 34) (b : c ≠ 92) : ∀ x ∈ Lib.encodeRune c, selfB x = true := by
 by_cases h : 128 ≤ c
 · exact fun x hx => self_high x (enc_high h x hx)
 · intro x hx
   rw [enc_low (by omega) (by omega), List.mem_singleton] at hx
   subst hx
   have := toNat_byte (z := c) (by omega) (by omega)
   exact self_low _ (by omega) (by omega) (by omega)
theorem line_self : ∀ {p : List UInt8} (r : List UInt8), (∀ x ∈ p, selfB x = true) → lineL (p ++ r) = (lineL r).map fun q => (p ++ q.1, p.length + q.2) := by
 intro p
 induction p with
 | nil => intro r _; show lineL r = _; cases lineL r <;> simp
 | cons b p ih =>
   intro r h
   have hb := h b (by simp)
   unfold selfB at hb
   simp only [Bool.and_eq_true, Bool.not_eq_true'] at hb
   obtain ⟨⟨⟨h34, h10⟩, h13⟩, h92⟩ := hb
   rw [List.cons_append, lineL_cons, h34, h10, h13, h92, ih r (fun x hx => h x (by simp [hx]))]
   cases lineL r with
   | none => rfl
   | some q => simp; omega
theorem unit_none_head {b : UInt8} {l : List UInt8} (h : b ≠ 92) : unitAt (b :: l) = none := by
 cases hu : unitAt (b :: l) with
 | none => rfl
 | some u => obtain ⟨t, e⟩ := unitAt_head hu; injection e with e; exact absurd e h
theorem unit_none_two {b : UInt8} {l : List UInt8} (h : b ≠ 117) : unitAt (92 :: b :: l) = none := by
 cases hu : unitAt (92 :: b :: l) with
 | none => rfl
 | some u => obtain ⟨t, e⟩ := unitAt_head hu; injection e with _ e; injection e with e; exact absurd e h
theorem line_esc {b x : UInt8} (r : List UInt8) (h : b ≠ 117) (he : escB b = some x) : lineL (92 :: b :: r) = (lineL r).map fun q => ([x] ++ q.1, 2 + q.2) := by
 have e : escL (92 :: b :: r) = some ([x], 2) := by
  unfold escL
  rw [if_pos (hexRun_none (unit_none_two h))]
  show (escB b).map _ = _
  rw [he]
  rfl
 rw [lineL_cons, e]
 rfl
theorem join_units {ds : List Int} (h : ds.all okB = true) : joinL (unitsOf ds) = some (bytesOf ds) := by
 unfold joinL
 rw [pairUp_units ds h]
 rfl
theorem unit_range {c : Int} (h : okB c = true) : ∀ z ∈ unitOf c, 0 ≤ z ∧ z ≤ 65535 := by
 have h' : 0 ≤ c ∧ c ≤ 1114111 ∧ halfB c = false := by simpa [okB] using h
 intro z hz
 unfold unitOf at hz
 split at hz
 · simp at hz; omega
 · simp at hz; omega
theorem lineU_append : ∀ (zs us : List Int) (r : List UInt8), (∀ z ∈ zs, 0 ≤ z ∧ z ≤ 65535) → lineU us (zs.flatMap hexText ++ r) = (lineU (us ++ zs) r).map fun q => (q.1, 6 * zs.length + q.2) := by
 intro zs
 induction zs with
 | nil => intro us r _; rw [List.append_nil]; show lineU us r = _; cases lineU us r <;> simp
 | cons z zs ih =>
   intro us r h
   have hz := h z (by simp)
   rw [List.flatMap_cons, List.append_assoc, lineU_unit (unit_text hz.1 hz.2 _)]
   have e : (hexText z ++ (zs.flatMap hexText ++ r)).drop 6 = zs.flatMap hexText ++ r := rfl
   rw [e, ih (us ++ [z]) r (fun x hx => h x (by simp [hx])), List.append_assoc, List.singleton_append, Option.map_map]
   congr 1
   funext q
   simp only [Function.comp, List.length_cons, Prod.mk.injEq, true_and]
   omega
theorem quote_codes : ∀ (cs ds : List Int) (r : List UInt8), cs.all okB = true → ds.all okB = true → lineU (unitsOf ds) (cs.flatMap printQ ++ (34 :: r)) = some (bytesOf ds ++ bytesOf cs, (cs.flatMap printQ).length + 1) := by
 intro cs
 induction cs with
 | nil =>
   intro ds r _ hd
   rw [List.flatMap_nil, List.nil_append, lineU_none (unit_none_head (by decide)), join_units hd]
   simp [lineL_cons, bytesOf]
 | cons c cs ih =>
   intro ds r hc hd
   simp only [List.all_cons, Bool.and_eq_true] at hc
   obtain ⟨hc1, hc2⟩ := hc
   have hcr : 0 ≤ c ∧ c ≤ 1114111 ∧ halfB c = false := by simpa [okB] using hc1
   have hb : bytesOf (c :: cs) = Lib.encodeRune c ++ bytesOf cs := rfl
   have h0 := ih [] r hc2 rfl
   rw [show unitsOf [] = [] from rfl, lineU_nil, show bytesOf [] = [] from rfl, List.nil_append] at h0
   rw [List.flatMap_cons, List.append_assoc, hb]
   have esc : ∀ (b x : UInt8), b ≠ 117 → escB b = some x → Lib.encodeRune c = [x] → printQ c = [92, b] → lineU (unitsOf ds) (printQ c ++ (cs.flatMap printQ ++ 34 :: r)) = some (bytesOf ds ++ (Lib.encodeRune c ++ bytesOf cs), (printQ c ++ cs.flatMap printQ).length + 1) := by
     intro b x hb he hx hp
     rw [hp, hx]
     show lineU _ (92 :: b :: (cs.flatMap printQ ++ 34 :: r)) = _
     rw [lineU_none (unit_none_two hb), join_units hd]
     simp only
     rw [line_esc _ hb he, h0]
     simp
     omega
   by_cases h34 : c = 34
   · exact esc 34 34 (by decide) rfl (by rw [h34]; decide) (by unfold printQ; rw [if_pos h34])
   by_cases h92 : c = 92
   · exact esc 92 92 (by decide) rfl (by rw [h92]; decide) (by unfold printQ; rw [if_neg h34, if_pos h92])
   by_cases h10 : c = 10
   · exact esc 110 10 (by decide) rfl (by rw [h10]; decide) (by unfold printQ; rw [if_neg h34, if_neg h92, if_pos h10])
   by_cases hu : c < 32 ∨ 65535 < c
   · have hp : printQ c = (unitOf c).flatMap hexText := by unfold printQ; rw [if_neg h34, if_neg h92, if_neg h10, if_pos hu]
     have h1 := ih (ds ++ [c]) r hc2 (by rw [List.all_append, hd]; simp [hc1])
     have e1 : unitsOf (ds ++ [c]) = unitsOf ds ++ unitOf c := by unfold unitsOf; simp [List.flatMap_append]
     have e2 : bytesOf (ds ++ [c]) = bytesOf ds ++ Lib.encodeRune c := by unfold bytesOf; simp [List.flatMap_append]
     rw [e1, e2] at h1
     rw [hp, lineU_append _ _ _ (unit_range hc1), h1]
     simp only [Option.map_some, List.length_append, text_len, List.append_assoc, Option.some.injEq, Prod.mk.injEq, true_and]
     omega
   · have hp : printQ c = Lib.encodeRune c := by unfold printQ; rw [if_neg h34, if_neg h92, if_neg h10, if_neg hu]
     have hs := enc_self (c := c) (by omega) (by omega) h34 h92
     rw [hp]
     have hne := encode_ne c
     cases he : Lib.encodeRune c with
     | nil => exact absurd he hne
     | cons b t =>
       rw [he] at hs
       have hb92 : b ≠ 92 := by
        have := hs b (by simp)
        unfold selfB at this
        intro e
        subst e
        exact absurd this (by decide)
       rw [List.cons_append, lineU_none (unit_none_head hb92), join_units hd]
       simp only
       rw [← List.cons_append, line_self _ hs, h0]
       simp
       omega
theorem end_dig {r : List UInt8} (h : endB r) : runL r = 0 ∧ fracL r = 0 ∧ signL r = 0 ∧ expoL r = 0 ∧ minusL r = 0 ∧ wholeL r = 0 ∧ behindB r = false ∧ r.takeWhile nameU = [] := by
 rcases h with rfl | ⟨r', rfl⟩
 · refine ⟨rfl, rfl, rfl, rfl, rfl, rfl, rfl, rfl⟩
 · have d : digU 32 = false := by decide
   have n : nameU 32 = false := by decide
   have l : letU 32 = false := by decide
   have hrun : runL (32 :: r') = 0 := by unfold runL; rw [List.takeWhile_cons, d]; rfl
   refine ⟨hrun, rfl, rfl, rfl, rfl, ?_, ?_, ?_⟩
   · show (if ((32 : UInt8) == 48) then 1 else runL (32 :: r')) = 0
     rw [hrun]; rfl
   · simp [behindB, d, l]
   · rw [List.takeWhile_cons, n]; rfl
theorem run_end {r : List UInt8} (h : endB r) : ∀ l : List UInt8, runL (l ++ r) = runL l := by
 intro l
 induction l with
 | nil => rw [List.nil_append, (end_dig h).1]; rfl
 | cons b t ih =>
   rw [List.cons_append]
   cases hb : digU b
   · rw [runL_no (show headB digU (b :: (t ++ r)) = false from hb), runL_no (show headB digU (b :: t) = false from hb)]
   · rw [runL_yes hb, runL_yes hb, ih]
theorem frac_end {r : List UInt8} (h : endB r) (l : List UInt8) : fracL (l ++ r) = fracL l := by
 cases l with
 | nil => rw [List.nil_append, (end_dig h).2.1]; rfl
 | cons b t => rw [List.cons_append]; simp only [fracL, run_end h]
theorem sign_end {r : List UInt8} (h : endB r) (l : List UInt8) : signL (l ++ r) = signL l := by
 cases l with
 | nil => rw [List.nil_append, (end_dig h).2.2.1]; rfl
 | cons b t => rfl
theorem drop_end {l r : List UInt8} {k : Nat} (h : k ≤ l.length) : (l ++ r).drop k = l.drop k ++ r := List.drop_append_of_le_length h
theorem expo_end {r : List UInt8} (h : endB r) (l : List UInt8) : expoL (l ++ r) = expoL l := by
 cases l with
 | nil => rw [List.nil_append, (end_dig h).2.2.2.1]; rfl
 | cons b t => rw [List.cons_append]; simp only [expoL, sign_end h, drop_end (signL_le t), run_end h]
theorem minus_end {r : List UInt8} (h : endB r) (l : List UInt8) : minusL (l ++ r) = minusL l := by
 cases l with
 | nil => rw [List.nil_append, (end_dig h).2.2.2.2.1]; rfl
 | cons b t => rfl
theorem whole_end {r : List UInt8} (h : endB r) (l : List UInt8) : wholeL (l ++ r) = wholeL l := by
 cases l with
 | nil => rw [List.nil_append, (end_dig h).2.2.2.2.2.1]; rfl
 | cons b t =>
   rw [List.cons_append]
   simp only [wholeL]
   rw [← List.cons_append, run_end h]
theorem numeral_end {r : List UInt8} (h : endB r) (l : List UInt8) : nmL (l ++ r) = nmL l := by
 have h1 := minusL_le l
 have h2 := wholeL_le (l.drop (minusL l))
 rw [List.length_drop] at h2
 have h3 := fracL_le (l.drop (minusL l + wholeL (l.drop (minusL l))))
 rw [List.length_drop] at h3
 unfold nmL
 rw [minus_end h, drop_end h1, whole_end h, drop_end (by omega), frac_end h, drop_end (by omega), expo_end h]
theorem kind_number {x : List UInt8} {k : Int} (hk : kindL x = k) (h0 : k ≠ 0) : nmL x = (x.length, k) ∧ x ≠ [] := by
 rw [kindL_eq] at hk
 by_cases hl : (nmL x).1 ≠ x.length
 · rw [if_pos hl] at hk; exact absurd hk.symm h0
 · rw [if_neg hl] at hk
   have hl' : (nmL x).1 = x.length := by omega
   refine ⟨by rw [← hk, ← hl'], ?_⟩
   intro e
   subst e
   exact h0 (by rw [← hk]; rfl)
theorem letter_byte : ∀ b : UInt8, letU b = true → isMark b = false ∧ isGap b = false ∧ (b == 35) = false ∧ b ≠ 239 ∧ b ≠ 46 := byte_all (by decide +kernel)
theorem mark_byte : ∀ b : UInt8, isMark b = true → isGap b = false ∧ (b == 35) = false ∧ b ≠ 239 ∧ b ≠ 46 ∧ letU b = false := byte_all (by decide +kernel)
theorem quote_back {cs : List Int} (h : cs.all okB = true) (r : List UInt8) (hr : endB r) : quoteL (quoteT cs ++ r) = some (bytesOf cs, (quoteT cs).length) := by
 have e : quoteT cs ++ r = 34 :: (cs.flatMap printQ ++ (34 :: r)) := by unfold quoteT; simp
 have hq := quote_codes cs [] r h rfl
 rw [show unitsOf [] = [] from rfl, lineU_nil, show bytesOf [] = [] from rfl, List.nil_append] at hq
 have hp : pre [34, 34, 34] (34 :: (cs.flatMap printQ ++ (34 :: r))) = false := by
  cases cs with
  | nil =>
    rcases hr with rfl | ⟨r', rfl⟩
    · rfl
    · rfl
  | cons c cs =>
    have hc : ∃ b t, printQ c = b :: t ∧ b ≠ 34 := by
      unfold printQ
      split
      · exact ⟨_, _, rfl, by decide⟩
      · split
        · exact ⟨_, _, rfl, by decide⟩
        · split
          · exact ⟨_, _, rfl, by decide⟩
          · split
            · unfold unitOf
              split
              · exact ⟨_, _, rfl, by decide⟩
              · exact ⟨_, _, rfl, by decide⟩
            · rename_i h34 h92 h10 hu
              cases he : Lib.encodeRune c with
              | nil => exact absurd he (encode_ne c)
              | cons b t =>
                have hs := enc_self (c := c) (by omega) (by omega) h34 h92 b (by rw [he]; simp)
                refine ⟨b, t, rfl, fun e => ?_⟩
                subst e
                exact absurd hs (by decide)
    obtain ⟨b, t, hb, hne⟩ := hc
    rw [List.flatMap_cons, hb]
    show pre [34, 34, 34] (34 :: b :: _) = false
    unfold pre
    have : ((34 : UInt8) == b) = false := by simpa using fun e => hne e.symm
    simp [List.isPrefixOf, this]
 rw [e]
 simp only [quoteL, hp, Bool.false_eq_true, if_false, show ((34 : UInt8) == 34) = true from rfl, if_true, hq, Option.map_some]
 unfold quoteT
 simp
 omega
theorem tok_back {t : Int × List UInt8} (ht : rightB t = true) {r : List UInt8} (hr : endB r) : gapL (printT t ++ r) = 0 ∧ printT t ++ r ≠ [] ∧ tokL (printT t ++ r) = some (t, (printT t).length) := by
 obtain ⟨k, x⟩ := t
 obtain ⟨_, _, _, _, _, _, hbeh, hnam⟩ := end_dig hr
 unfold rightB at ht
 simp only at ht
 by_cases k1 : k = 1
 · rw [if_pos k1] at ht
   subst k1
   have hp : printT (1, x) = x := rfl
   rw [hp]
   simp only [decide_eq_true_eq] at ht
   obtain ⟨m0, ml⟩ := ht
   cases x with
   | nil => simp [markN] at m0
   | cons b s =>
     rw [List.cons_append]
     have hm : markN (b :: (s ++ r)) = (b :: s).length ∧ gapL (b :: (s ++ r)) = 0 := by
      unfold markN at ml
      simp only at ml
      split at ml
      · rename_i hd
        unfold pre at hd
        rw [List.isPrefixOf_iff_prefix] at hd
        have e : [46, 46, 46] = b :: s := hd.eq_of_length (by simpa using ml)
        injection e with e1 e2
        subst e1 e2
        exact ⟨rfl, rfl⟩
      · split at ml
        · rename_i hd hm
          have hs : s = [] := by simpa using ml
          subst hs
          obtain ⟨g1, g2, g3, g4, _⟩ := mark_byte b hm
          exact ⟨by simp [markN, pre_ne g4, hm], by simp [gapL, g1, g2, pre_ne g3]⟩
        · simp at ml
     refine ⟨hm.2, by simp, ?_⟩
     unfold tokL
     rw [if_pos (by rw [hm.1]; simp), hm.1, ← List.cons_append, List.take_left]
 rw [if_neg k1] at ht
 by_cases k2 : k = 2
 · rw [if_pos k2] at ht
   subst k2
   have hp : printT (2, x) = x := rfl
   rw [hp]
   cases x with
   | nil => cases ht
   | cons b s =>
     simp only [nameB, Bool.and_eq_true] at ht
     have hb : letU b = true := ht.1
     have hs : s.all nameU = true := ht.2
     obtain ⟨m1, m2, m3, m4, m5⟩ := letter_byte b hb
     rw [List.cons_append]
     have hw : wordN (b :: (s ++ r)) = (b :: s).length := by
      simp only [wordN, hb, if_true]
      rw [List.takeWhile_append_of_pos (by simpa [List.all_eq_true] using hs), hnam, List.append_nil, List.length_cons]
      omega
     have hm : markN (b :: (s ++ r)) = 0 := by simp [markN, pre_ne m5, m1]
     refine ⟨by simp [gapL, m2, m3, pre_ne m4], by simp, ?_⟩
     unfold tokL
     rw [if_neg (by rw [hm]; simp), if_pos (by rw [hw]; simp), hw, ← List.cons_append, List.take_left]
 rw [if_neg k2] at ht
 by_cases k34 : k = 3 ∨ k = 4
 · rw [if_pos k34] at ht
   have hp : printT (k, x) = x := by unfold printT; rw [if_neg (by show ¬ k = 5; omega)]
   rw [hp]
   have hk : kindL x = k := by simpa using ht
   obtain ⟨hn, hne⟩ := kind_number hk (by omega)
   have hN : nbL (x ++ r) = (x.length, k) := number_good (by rw [numeral_end hr, hn]) (by intro e; exact hne (List.eq_nil_of_length_eq_zero e)) (by rw [List.drop_left]; exact hbeh)
   have hN0 : (nbL (x ++ r)).1 ≠ 0 := by rw [hN]; intro e; exact hne (List.eq_nil_of_length_eq_zero e)
   obtain ⟨g, tk⟩ := tok_number hN0
   refine ⟨g, by intro e; rw [e] at hN0; exact hN0 rfl, ?_⟩
   rw [tk, hN, List.take_left]
 rw [if_neg k34] at ht
 by_cases k5 : k = 5
 · rw [if_pos k5] at ht
   subst k5
   have hp : printT (5, x) = quoteT (codesT x) := rfl
   rw [hp]
   rw [goodB_iff] at ht
   cases hc : codes x with
   | none => rw [hc] at ht; cases ht
   | some cs =>
     obtain ⟨hb, ho⟩ := bytes_codes x.length x cs (Nat.le_refl _) hc
     have hct : codesT x = cs := by unfold codesT; rw [hc]
     rw [hct]
     have hq := quote_back ho r hr
     have e : quoteT cs ++ r = 34 :: (cs.flatMap printQ ++ [34] ++ r) := by unfold quoteT; simp
     obtain ⟨g, tk⟩ := tok_quote (cs.flatMap printQ ++ [34] ++ r)
     rw [← e] at g tk
     refine ⟨g, by rw [e]; simp, ?_⟩
     rw [tk, hq, hb]
     rfl
 · rw [if_neg k5] at ht
   cases ht
theorem read_back {t : Int × List UInt8} (ht : rightB t = true) {r : List UInt8} (hr : endB r) : readL (printT t ++ r) = (readL r).map (t :: ·) := by
 obtain ⟨g, n, k⟩ := tok_back ht hr
 rw [readL_tok g n k, List.drop_left]
theorem read_blank (r : List UInt8) : readL (32 :: r) = readL r := by
 rw [readL_gap (by simp [gapL, isGap])]
 rfl
def printL : List (Int × List UInt8) → List UInt8
 | [] => []
 | t :: ts => printT t ++ (if ts = [] then [] else 32 :: printL ts)
theorem read_print : ∀ ts : List (Int × List UInt8), ts.all rightB = true → readL (printL ts) = some ts := by
 intro ts
 induction ts with
 | nil => intro _; rfl
 | cons t ts ih =>
   intro h
   simp only [List.all_cons, Bool.and_eq_true] at h
   simp only [printL]
   by_cases he : ts = []
   · subst he
     rw [if_pos rfl, read_back h.1 (.inl rfl), readL_nil]
     rfl
   · rw [if_neg he, read_back h.1 (.inr ⟨_, rfl⟩), read_blank, ih h.2]
     rfl
theorem print_snoc (t : Int × List UInt8) : ∀ ts : List (Int × List UInt8), ts ≠ [] → printL (ts ++ [t]) = printL ts ++ 32 :: printT t := by
 intro ts
 induction ts with
 | nil => intro h; exact absurd rfl h
 | cons u ts ih =>
   intro _
   rw [List.cons_append]
   simp only [printL]
   by_cases he : ts = []
   · subst he
     simp [printL]
   · rw [if_neg (by simp), if_neg he, ih he]
     simp
theorem source_enc {c : Int} (h : okB c = true) (hs : srcB c = true) : sourceB (Lib.encodeRune c) = true := by
 have h1 := codes_bytes [c] [] (by simp [h])
 rw [List.append_nil, show bytesOf [c] = Lib.encodeRune c by simp [bytesOf]] at h1
 unfold sourceB eachP
 rw [h1, codes_nil]
 simp [hs]
theorem hexText_asc {z : Int} (h : 0 ≤ z ∧ z ≤ 65535) : (hexText z).all ascB = true := by
 have := text_asc (zs := [z]) (by simpa using h)
 simpa using this
theorem source_printQ {c : Int} (h : okB c = true) : sourceB (printQ c) = true := by
 have hcr : 0 ≤ c ∧ c ≤ 1114111 ∧ halfB c = false := by simpa [okB] using h
 unfold printQ
 split
 · decide +kernel
 · split
   · decide +kernel
   · split
     · decide +kernel
     · split
       · refine source_ascii ?_
         rw [List.all_flatMap, List.all_eq_true]
         exact fun z hz => hexText_asc (unit_range h z hz)
       · exact source_enc h (by simp [srcB]; omega)
theorem source_flat : ∀ {cs : List Int}, cs.all okB = true → sourceB (cs.flatMap printQ) = true := by
 intro cs
 induction cs with
 | nil => intro _; rfl
 | cons c cs ih =>
   intro h
   simp only [List.all_cons, Bool.and_eq_true] at h
   rw [List.flatMap_cons, source_append (source_printQ h.1), ih h.2]
theorem source_printT {t : Int × List UInt8} (ht : rightB t = true) : sourceB (printT t) = true := by
 obtain ⟨k, x⟩ := t
 unfold rightB at ht
 simp only at ht
 by_cases k1 : k = 1
 · rw [if_pos k1] at ht
   have hp : printT (k, x) = x := by unfold printT; rw [if_neg (by show ¬ k = 5; omega)]
   rw [hp]
   refine source_ascii ?_
   simp only [decide_eq_true_eq] at ht
   obtain ⟨m0, ml⟩ := ht
   cases x with
   | nil => rfl
   | cons b s =>
     unfold markN at ml
     simp only at ml
     split at ml
     · rename_i hd
       unfold pre at hd
       rw [List.isPrefixOf_iff_prefix] at hd
       have e : [46, 46, 46] = b :: s := hd.eq_of_length (by simpa using ml)
       rw [← e]
       decide
     · split at ml
       · rename_i hd hm
         have hs : s = [] := by simpa using ml
         subst hs
         simp [isMark_asc b hm]
       · simp at ml
 rw [if_neg k1] at ht
 by_cases k2 : k = 2
 · rw [if_pos k2] at ht
   have hp : printT (k, x) = x := by unfold printT; rw [if_neg (by show ¬ k = 5; omega)]
   rw [hp]
   refine source_ascii ?_
   cases x with
   | nil => rfl
   | cons b s =>
     simp only [nameB, Bool.and_eq_true] at ht
     have hb : nameU b = true := by unfold nameU; rw [show letU b = true from ht.1]; rfl
     have hs : s.all nameU = true := ht.2
     rw [List.all_cons, nameU_asc b hb, all_imp nameU_asc hs]
     rfl
 rw [if_neg k2] at ht
 by_cases k34 : k = 3 ∨ k = 4
 · rw [if_pos k34] at ht
   have hp : printT (k, x) = x := by unfold printT; rw [if_neg (by show ¬ k = 5; omega)]
   rw [hp]
   have hk : kindL x = k := by simpa using ht
   exact (numbers_yes (by rw [hk]; omega)).2.1
 rw [if_neg k34] at ht
 by_cases k5 : k = 5
 · rw [if_pos k5] at ht
   subst k5
   have hp : printT (5, x) = quoteT (codesT x) := rfl
   rw [hp]
   rw [goodB_iff] at ht
   cases hc : codes x with
   | none => rw [hc] at ht; cases ht
   | some cs =>
     obtain ⟨hb, ho⟩ := bytes_codes x.length x cs (Nat.le_refl _) hc
     have hct : codesT x = cs := by unfold codesT; rw [hc]
     rw [hct]
     unfold quoteT
     rw [show 34 :: (cs.flatMap printQ ++ [34]) = [34] ++ (cs.flatMap printQ ++ [34]) from rfl, source_append (by decide +kernel), source_append (source_flat ho)]
     decide +kernel
 · rw [if_neg k5] at ht
   cases ht
theorem source_printL : ∀ ts : List (Int × List UInt8), ts.all rightB = true → sourceB (printL ts) = true := by
 intro ts
 induction ts with
 | nil => intro _; rfl
 | cons t ts ih =>
   intro h
   simp only [List.all_cons, Bool.and_eq_true] at h
   simp only [printL]
   rw [source_append (source_printT h.1)]
   by_cases he : ts = []
   · rw [if_pos he]; rfl
   · rw [if_neg he, source_cons _ (by decide), ih h.2]
     decide
theorem print_readS {ts : List (Int × List UInt8)} (h : ts.all rightB = true) : readS (printL ts) = if 8192 < (printL ts).length then ([], 3) else (ts, 0) := by
 unfold readS
 by_cases hl : 8192 < (printL ts).length
 · rw [if_pos hl, if_pos hl]
 · rw [if_neg hl, if_neg hl, if_neg (by rw [source_printL ts h]; simp), read_print ts h]
theorem name_ascii {n : List UInt8} (hn : nameB n = true) : n.all ascB = true := by
 have key : ∀ b : UInt8, (letB (b.toNat : Int) || digB (b.toNat : Int)) = true → ascB b = true := byte_all (by decide +kernel)
 cases n with
 | nil => rfl
 | cons b t =>
   have : (letB (b.toNat : Int) && tailB t) = true := hn
   rw [Bool.and_eq_true] at this
   rw [List.all_cons, Bool.and_eq_true]
   refine ⟨key b (by rw [this.1]; rfl), List.all_eq_true.2 fun x hx => key x (List.all_eq_true.1 this.2 x hx)⟩
def bz (n : List UInt8) : ByteArray := ⟨n.toArray⟩
theorem run_take (l : List UInt8) (j : Nat) : runL (l.take j) = min j (runL l) := by
 unfold runL
 induction l generalizing j with
 | nil => simp
 | cons b t ih =>
   cases j with
   | zero => simp
   | succ j =>
     rw [List.take_succ_cons, List.takeWhile_cons, List.takeWhile_cons]
     split
     · simp only [List.length_cons]; rw [ih j]; omega
     · simp
theorem frac_take {l : List UInt8} {j : Nat} (h : fracL l ≤ j) : fracL (l.take j) = fracL l := by
 cases l with
 | nil => simp
 | cons b t =>
   cases j with
   | zero => have : fracL (b :: t) = 0 := by omega
             rw [this]; rfl
   | succ j =>
     rw [List.take_succ_cons]
     simp only [fracL] at h ⊢
     rw [run_take]
     split
     · rename_i hb
       rw [if_pos hb] at h
       by_cases h0 : runL t = 0
       · rw [h0]; simp
       · rw [if_neg h0] at h
         rw [show min j (runL t) = runL t by omega]
     · rfl
theorem sign_take {l : List UInt8} {j : Nat} (h : j ≠ 0) : signL (l.take j) = signL l := by
 cases l with
 | nil => simp
 | cons b t =>
   cases j with
   | zero => exact absurd rfl h
   | succ j => rw [List.take_succ_cons]; rfl
theorem expo_take {l : List UInt8} {j : Nat} (h : expoL l ≤ j) : expoL (l.take j) = expoL l := by
 cases l with
 | nil => simp
 | cons b t =>
   cases j with
   | zero => have : expoL (b :: t) = 0 := by omega
             rw [this]; rfl
   | succ j =>
     rw [List.take_succ_cons]
     simp only [expoL] at h ⊢
     split
     · rename_i hb
       rw [if_pos hb] at h
       by_cases h0 : runL (t.drop (signL t)) = 0
       · rw [if_pos h0] at h
         rw [if_pos h0]
         have : runL ((t.take j).drop (signL (t.take j))) = 0 := by
           by_cases hj : j = 0
           · subst hj; simp [runL]
           · rw [sign_take hj, List.drop_take, run_take, h0]; simp
         rw [if_pos this]
       · rw [if_neg h0] at h
         have hj : j ≠ 0 := by omega
         rw [sign_take hj, List.drop_take, run_take, show min (j - signL t) (runL (t.drop (signL t))) = runL (t.drop (signL t)) by omega]
     · rfl
theorem minus_take {l : List UInt8} {j : Nat} (h : j ≠ 0) : minusL (l.take j) = minusL l := by
 cases l with
 | nil => simp
 | cons b t =>
   cases j with
   | zero => exact absurd rfl h
   | succ j => rw [List.take_succ_cons]; rfl
theorem whole_take {l : List UInt8} {j : Nat} (h : wholeL l ≤ j) : wholeL (l.take j) = wholeL l := by
 cases l with
 | nil => simp
 | cons b t =>
   cases j with
   | zero => have : wholeL (b :: t) = 0 := by omega
             rw [this]; rfl
   | succ j =>
     have ht : (b :: t).take (j + 1) = b :: t.take j := List.take_succ_cons
     rw [ht]
     simp only [wholeL] at h ⊢
     split
     · rfl
     · rename_i hb
       rw [if_neg hb] at h
       rw [← ht, run_take]; omega
theorem numeral_take (l : List UInt8) : nmL (l.take (nmL l).1) = nmL l := by
 by_cases h0 : wholeL (l.drop (minusL l)) = 0
 · have e : nmL l = (0, 0) := by unfold nmL; rw [if_pos h0]
   rw [e]; rfl
 · obtain ⟨m, hm⟩ : ∃ m, minusL l = m := ⟨_, rfl⟩
   obtain ⟨w, hw⟩ : ∃ w, wholeL (l.drop m) = w := ⟨_, rfl⟩
   obtain ⟨f, hf⟩ : ∃ f, fracL (l.drop (m + w)) = f := ⟨_, rfl⟩
   obtain ⟨x, hx⟩ : ∃ x, expoL (l.drop (m + w + f)) = x := ⟨_, rfl⟩
   have e : nmL l = (m + w + f + x, if f = 0 ∧ x = 0 then 3 else 4) := by
    unfold nmL
    rw [if_neg h0, hm, hw, hf, hx]
   have hw0 : w ≠ 0 := by rw [← hw, ← hm]; exact h0
   rw [e]
   simp only
   have e1 : minusL (l.take (m + w + f + x)) = m := by rw [minus_take (by omega)]; exact hm
   have e2 : wholeL ((l.take (m + w + f + x)).drop m) = w := by rw [List.drop_take, whole_take (by rw [hw]; omega)]; exact hw
   have e3 : fracL ((l.take (m + w + f + x)).drop (m + w)) = f := by rw [List.drop_take, frac_take (by rw [hf]; omega)]; exact hf
   have e4 : expoL ((l.take (m + w + f + x)).drop (m + w + f)) = x := by rw [List.drop_take, expo_take (by rw [hx]; omega)]; exact hx
   unfold nmL
   rw [e1, e2, e3, e4, if_neg hw0]
theorem number_take {l : List UInt8} (h : (nbL l).1 ≠ 0) : kindL (l.take (nbL l).1) = (nbL l).2 ∧ ((nbL l).2 = 3 ∨ (nbL l).2 = 4) := by
 have e : nbL l = nmL l := by
   unfold nbL at h ⊢
   split at h
   · exact absurd rfl h
   · rename_i h1
     split at h
     · exact absurd rfl h
     · rename_i h2
       rw [if_neg h1, if_neg h2]
 rw [e] at h ⊢
 have hle := numeralL_le l
 have ht := numeral_take l
 constructor
 · rw [kindL_eq, ht, if_neg (by rw [List.length_take]; omega)]
 · unfold nmL at h ⊢
   split at h
   · exact absurd rfl h
   · rename_i h1
     rw [if_neg h1]
     simp only
     split
     · exact .inl rfl
     · exact .inr rfl
theorem good_bytes {l : List UInt8} (h : goodB l = true) : ∃ cs, cs.all okB = true ∧ bytesOf cs = l := by
 rw [goodB_iff] at h
 cases hc : codes l with
 | none => rw [hc] at h; cases h
 | some cs =>
   obtain ⟨a, b⟩ := bytes_codes _ l cs (Nat.le_refl _) hc
   exact ⟨cs, b, a⟩
theorem bytes_good {cs : List Int} (h : cs.all okB = true) : goodB (bytesOf cs) = true := by
 rw [goodB_iff]
 have := codes_bytes cs [] h
 rw [List.append_nil, codes_nil] at this
 rw [this]; rfl
theorem good_app {a : List UInt8} (ha : goodB a = true) (b : List UInt8) : goodB (a ++ b) = goodB b := by
 rw [goodB_iff] at ha ⊢
 rw [goodB_iff]
 cases hc : codes a with
 | none => rw [hc] at ha; cases ha
 | some cs =>
   rw [codes_append hc]
   cases codes b <;> rfl
theorem good_asc_app : ∀ {a : List UInt8} (b : List UInt8), (∀ x ∈ a, x.toNat < 128) → goodB (a ++ b) = goodB b
 | [], _, _ => rfl
 | c :: a, b, h => by rw [List.cons_append, good_cons _ (h c (by simp)), good_asc_app b fun x hx => h x (by simp [hx])]
theorem good_asc {a : List UInt8} (h : ∀ x ∈ a, x.toNat < 128) : goodB a = true := by
 have := good_asc_app [] h
 rw [List.append_nil] at this
 rw [this]; rfl
theorem good_cut {b : UInt8} {t : List UInt8} (hb : b.toNat < 128) : ∀ (cs : List Int) (p : List UInt8), cs.all okB = true → bytesOf cs = p ++ b :: t → goodB p = true ∧ goodB t = true
 | [], p, _, h => by have := congrArg List.length h; simp [bytesOf] at this
 | c :: cs, p, hk, h => by
   simp only [List.all_cons, Bool.and_eq_true] at hk
   have hok : 0 ≤ c ∧ c ≤ 1114111 ∧ halfB c = false := by simpa [okB] using hk.1
   have h' : Lib.encodeRune c ++ bytesOf cs = p ++ b :: t := h
   have hone : goodB (Lib.encodeRune c) = true := by
     have := bytes_good (cs := [c]) (by simp [hk.1])
     simpa [bytesOf] using this
   rcases List.append_eq_append_iff.1 h' with ⟨q, hp, hq⟩ | ⟨q, hp, hq⟩
   · have := good_cut hb cs q hk.2 hq
     exact ⟨by rw [hp, good_app hone]; exact this.1, this.2⟩
   · cases q with
     | nil =>
       rw [List.append_nil] at hp
       have hq : b :: t = bytesOf cs := hq
       have := good_cut hb cs [] hk.2 (by rw [List.nil_append]; exact hq.symm)
       exact ⟨by rw [← hp]; exact hone, this.2⟩
     | cons d q =>
       have hd : d = b := by have := (List.cons.inj hq).1; exact this.symm
       subst hd
       have hq2 : t = q ++ bytesOf cs := (List.cons.inj hq).2
       by_cases hc : 128 ≤ c
       · have := enc_high hc d (by rw [hp]; simp)
         omega
       · rw [enc_low hok.1 (by omega)] at hp
         cases p with
         | cons x p => simp at hp
         | nil =>
           have : q = [] := by simpa using (List.cons.inj hp).2.symm
           subst this
           rw [List.nil_append] at hq2
           exact ⟨rfl, by rw [hq2]; exact bytes_good hk.2⟩
theorem good_split {b : UInt8} (hb : b.toNat < 128) {p t : List UInt8} (h : goodB (p ++ b :: t) = true) : goodB p = true ∧ goodB t = true := by
 obtain ⟨cs, h1, h2⟩ := good_bytes h
 exact good_cut hb cs p h1 h2
theorem asc_hex : ∀ b : UInt8, hexB b = true → b.toNat < 128 := byte_all (by decide +kernel)
theorem asc_esc : ∀ b : UInt8, (escB b).isSome = true → b.toNat < 128 := byte_all (by decide +kernel)
theorem asc_escd : ∀ b : UInt8, (match escB b with | some x => decide (x.toNat < 128) | none => true) = true := byte_all (by decide +kernel)
theorem unit_asc {l : List UInt8} {u : Int} (h : unitAt l = some u) : ∀ x ∈ l.take 6, x.toNat < 128 := by
 unfold unitAt at h
 split at h
 · rename_i x y a b c d r
   split at h
   · rename_i hh
     simp only [Bool.and_eq_true, beq_iff_eq] at hh
     obtain ⟨⟨⟨⟨⟨h1, h2⟩, h3⟩, h4⟩, h5⟩, h6⟩ := hh
     intro z hz
     have hz : z = x ∨ z = y ∨ z = a ∨ z = b ∨ z = c ∨ z = d := by simpa using hz
     rcases hz with rfl | rfl | rfl | rfl | rfl | rfl
     · subst h1; decide
     · subst h2; decide
     · exact asc_hex _ h3
     · exact asc_hex _ h4
     · exact asc_hex _ h5
     · exact asc_hex _ h6
   · cases h
 · cases h
theorem run_asc : ∀ (n : Nat) (l : List UInt8), l.length ≤ n → ∀ x ∈ l.take (6 * (hexRun l).length), x.toNat < 128
 | 0, l, h, x, hx => by
   have : l = [] := List.eq_nil_of_length_eq_zero (by omega)
   subst this; simp at hx
 | n + 1, l, h, x, hx => by
   cases hu : unitAt l with
   | none => rw [hexRun_none hu] at hx; simp at hx
   | some u =>
     have hl := unitAt_len hu
     rw [hexRun_some hu, List.length_cons, show 6 * ((hexRun (l.drop 6)).length + 1) = 6 + 6 * (hexRun (l.drop 6)).length by omega, List.take_add] at hx
     rcases List.mem_append.1 hx with hx | hx
     · exact unit_asc hu x hx
     · exact run_asc n (l.drop 6) (by rw [List.length_drop]; omega) x hx
theorem esc_good {l : List UInt8} {q : List UInt8 × Nat} (h : escL l = some q) (hh : ∃ t, l = 92 :: t) (hg : goodB l = true) : goodB q.1 = true ∧ goodB (l.drop q.2) = true := by
 unfold escL at h
 split at h
 · obtain ⟨t0, ht0⟩ := hh
   subst ht0
   cases t0 with
   | nil => cases h
   | cons c r =>
     change (escB c).map (fun x => ([x], 2)) = some q at h
     cases he : escB c with
     | none => rw [he] at h; cases h
     | some x =>
       rw [he] at h
       have h := Option.some.inj h
       subst h
       have hx := asc_escd c
       rw [he] at hx
       have hc := asc_esc c (by rw [he]; rfl)
       rw [good_cons _ (by decide), good_cons _ hc] at hg
       exact ⟨good_asc (by intro z hz; have : z = x := by simpa using hz
                           subst this; simpa using hx), hg⟩
 · cases hj : joinL (hexRun l) with
   | none => rw [hj] at h; cases h
   | some x =>
     rw [hj] at h
     have h := Option.some.inj h
     subst h
     unfold joinL at hj
     cases hp : pairUp (hexRun l) with
     | none => rw [hp] at hj; cases hj
     | some cs =>
       rw [hp] at hj
       have hj := Option.some.inj hj
       subst hj
       refine ⟨bytes_good (units_of_pairUp _ _ _ (Nat.le_refl _) hp).2, ?_⟩
       have := good_asc_app (l.drop (6 * (hexRun l).length)) (run_asc _ l (Nat.le_refl _))
       rw [List.take_append_drop] at this
       rw [← this]; exact hg
theorem line_good : ∀ (n : Nat) (l : List UInt8) (q : List UInt8 × Nat) (p : List UInt8), lineF n l = some q → goodB (p ++ l) = true → goodB (p ++ q.1) = true
 | 0, _, _, _, h, _ => by cases h
 | _ + 1, [], _, _, h, _ => by cases h
 | n + 1, b :: t, q, p, h, hg => by
   rw [lineF] at h
   split at h
   · rename_i hb
     have hb : b = 34 := by simpa using hb
     subst hb
     cases h
     rw [List.append_nil]
     exact (good_split (by decide) hg).1
   · split at h
     · cases h
     · split at h
       · rename_i hb
         have hb : b = 92 := by simpa using hb
         subst hb
         have hs := good_split (by decide) hg
         cases he : escL (92 :: t) with
         | none => rw [he] at h; cases h
         | some e =>
           rw [he] at h
           simp only at h
           obtain ⟨e1, e2⟩ := esc_good he ⟨t, rfl⟩ (by rw [good_cons _ (by decide)]; exact hs.2)
           cases hr : lineF n ((92 :: t).drop e.2) with
           | none => rw [hr] at h; cases h
           | some r =>
             rw [hr] at h
             have h := Option.some.inj h
             subst h
             have := line_good n _ r [] hr e2
             show goodB (p ++ (e.1 ++ r.1)) = true
             rw [good_app hs.1, good_app e1]; exact this
       · cases hr : lineF n t with
         | none => rw [hr] at h; cases h
         | some r =>
           rw [hr] at h
           have h := Option.some.inj h
           subst h
           have := line_good n t r (p ++ [b]) hr (by simpa using hg)
           simpa using this
theorem raw_good : ∀ (n : Nat) (l : List UInt8) (q : List UInt8 × Nat) (p : List UInt8), rawF n l = some q → goodB (p ++ l) = true → goodB (p ++ q.1) = true
 | 0, _, _, _, h, _ => by cases h
 | _ + 1, [], _, _, h, _ => by cases h
 | n + 1, b :: t, q, p, h, hg => by
   rw [rawF] at h
   split at h
   · rename_i hb
     cases h
     unfold pre at hb
     rw [List.isPrefixOf_iff_prefix] at hb
     obtain ⟨z, hz⟩ := hb
     rw [List.append_nil]
     rw [← hz] at hg
     exact (good_split (b := 34) (by decide) hg).1
   · split at h
     · rename_i hb
       unfold pre at hb
       rw [List.isPrefixOf_iff_prefix] at hb
       obtain ⟨z, hz⟩ := hb
       have hz : b :: t = 92 :: 34 :: 34 :: 34 :: z := hz.symm
       rw [hz] at hg h
       have hs := good_split (b := 92) (by decide) hg
       rw [good_cons _ (by decide), good_cons _ (by decide), good_cons _ (by decide)] at hs
       cases hr : rawF n z with
       | none => simp only [List.drop_succ_cons, List.drop_zero, hr] at h; cases h
       | some r =>
         simp only [List.drop_succ_cons, List.drop_zero, hr] at h
         have h := Option.some.inj h
         subst h
         have := raw_good n z r [] hr hs.2
         show goodB (p ++ ([34, 34, 34] ++ r.1)) = true
         rw [good_app hs.1, good_asc_app _ (by intro x hx; have : x = 34 := by simpa using hx
                                               subst this; decide)]; exact this
     · cases hr : rawF n t with
       | none => rw [hr] at h; cases h
       | some r =>
         rw [hr] at h
         have h := Option.some.inj h
         subst h
         have := raw_good n t r (p ++ [b]) hr (by simpa using hg)
         simpa using this
theorem first_rest (l : List UInt8) : l = Blk.firstL l ++ l.dropWhile fun c => !Blk.eolB c := (List.takeWhile_append_dropWhile).symm
theorem eol_asc {c : UInt8} (h : Blk.eolB c = true) : c.toNat < 128 := by
 have : ∀ b : UInt8, Blk.eolB b = true → b.toNat < 128 := byte_all (by decide +kernel)
 exact this c h
theorem drop_head {p : UInt8 → Bool} : ∀ {l : List UInt8} {c : UInt8} {t : List UInt8}, l.dropWhile p = c :: t → p c = false
 | [], _, _, h => by cases h
 | d :: l, c, t, h => by
   rw [List.dropWhile_cons] at h
   split at h
   · exact drop_head h
   · rename_i hd
     cases h; simpa using hd
theorem lines_good : ∀ (n : Nat) (l : List UInt8), l.length < n → goodB l = true → ∀ x ∈ Blk.linesL l, goodB x = true := by
 intro n
 induction n with
 | zero => intro l h; omega
 | succ n ih =>
   intro l hn hg x hx
   rw [Blk.linesL_eq] at hx
   have hfr := first_rest l
   have key : goodB (Blk.firstL l) = true ∧ ∀ t, Blk.afterL l = some t → goodB t = true := by
     cases hd : l.dropWhile fun c => !Blk.eolB c with
     | nil =>
       rw [hd, List.append_nil] at hfr
       refine ⟨by rw [← hfr]; exact hg, fun t ht => ?_⟩
       unfold Blk.afterL at ht
       rw [hd] at ht; cases ht
     | cons c r =>
       rw [hd] at hfr
       have hc : Blk.eolB c = true := by have := drop_head hd; simpa using this
       rw [hfr] at hg
       have hs := good_split (eol_asc hc) hg
       refine ⟨hs.1, fun t ht => ?_⟩
       unfold Blk.afterL at ht
       rw [hd] at ht
       simp only at ht
       split at ht
       · cases r with
         | nil => cases ht; exact hs.2
         | cons d r =>
           simp only at ht
           split at ht
           · rename_i hd10
             cases ht
             have := hs.2
             rw [hd10, good_cons _ (by decide)] at this; exact this
           · cases ht; exact hs.2
       · cases ht; exact hs.2
   rcases List.mem_cons.1 hx with e | e
   · rw [e]; exact key.1
   · cases ha : Blk.afterL l with
     | none => rw [ha] at e; cases e
     | some t =>
       rw [ha] at e
       exact ih t (by have := Blk.afterL_len ha; omega) (key.2 t ha) x e
theorem blank_asc : ∀ b : UInt8, Blk.blankB b = true → b.toNat < 128 := byte_all (by decide +kernel)
theorem drop_blank {x : List UInt8} {n : Nat} (h : ∀ c ∈ x.take n, Blk.blankB c = true) (hg : goodB x = true) : goodB (x.drop n) = true := by
 have := good_asc_app (x.drop n) (fun c hc => blank_asc c (h c hc))
 rw [List.take_append_drop] at this
 rw [← this]; exact hg
theorem step_le (v : Int) (x : List UInt8) (hv : 0 ≤ v) : Blk.stepI v x ≤ v := by
 unfold Blk.stepI; split <;> omega
theorem step_nonneg (v : Int) (x : List UInt8) (hv : 0 ≤ v) : 0 ≤ Blk.stepI v x := by
 unfold Blk.stepI; split <;> omega
theorem fold_le : ∀ (ls : List (List UInt8)) (v : Int), 0 ≤ v → ls.foldl Blk.stepI v ≤ v ∧ 0 ≤ ls.foldl Blk.stepI v
 | [], v, h => ⟨Int.le_refl _, h⟩
 | x :: ls, v, h => by
   rw [List.foldl_cons]
   have h1 := fold_le ls _ (step_nonneg v x h)
   exact ⟨Int.le_trans h1.1 (step_le v x h), h1.2⟩
theorem fold_lead : ∀ (ls : List (List UInt8)) (v : Int) (x : List UInt8), x ∈ ls → Blk.inkB x = true → ls.foldl Blk.stepI v ≤ (Blk.leadN x : Int)
 | [], _, _, h, _ => by cases h
 | y :: ls, v, x, h, hi => by
   rw [List.foldl_cons]
   rcases List.mem_cons.1 h with e | e
   · subst e
     have hs : Blk.stepI v x ≤ (Blk.leadN x : Int) ∧ 0 ≤ Blk.stepI v x := by
      unfold Blk.stepI
      by_cases hc : v < 0 ∨ (Blk.leadN x : Int) < v
      · rw [if_pos ⟨hi, hc⟩]; omega
      · rw [if_neg (fun e => hc e.2)]; omega
     exact Int.le_trans (fold_le ls _ hs.2).1 hs.1
   · exact fold_lead ls _ x e hi
theorem lead_take : ∀ (x : List UInt8) (n : Nat), n ≤ Blk.leadN x → ∀ c ∈ x.take n, Blk.blankB c = true
 | [], _, _, c, hc => by simp at hc
 | b :: t, 0, _, c, hc => by simp at hc
 | b :: t, n + 1, h, c, hc => by
   unfold Blk.leadN at h
   rw [List.takeWhile_cons] at h
   split at h
   · rename_i hb
     rw [List.take_succ_cons] at hc
     rcases List.mem_cons.1 hc with e | e
     · rw [e]; exact hb
     · exact lead_take t n (by unfold Blk.leadN; simpa using h) c e
   · simp at h
theorem ink_no {x : List UInt8} (h : Blk.inkB x = false) : ∀ c ∈ x, Blk.blankB c = true := by
 intro c hc
 unfold Blk.inkB at h
 rw [List.any_eq_false] at h
 have := h c hc
 simpa using this
theorem join_good : ∀ ls : List (List UInt8), (∀ x ∈ ls, goodB x = true) → goodB (Blk.joinTen ls) = true
 | [], _ => rfl
 | [x], h => h x (by simp)
 | x :: y :: t, h => by
   show goodB (x ++ 10 :: Blk.joinTen (y :: t)) = true
   rw [good_app (h x (by simp)), good_cons _ (by decide)]
   exact join_good (y :: t) fun z hz => h z (by simp [hz])
theorem value_good {raw : List UInt8} (hg : goodB raw = true) : goodB (Blk.valueL raw) = true := by
 have hl := lines_good _ raw (Nat.lt_succ_self _) hg
 refine join_good _ fun x hx => ?_
 have hx : x ∈ Blk.cutL (max (Blk.indentL (Blk.linesL raw)) 0).toNat (Blk.linesL raw) := (Blk.trim_infix _).subset hx
 cases hls : Blk.linesL raw with
 | nil => rw [hls] at hx; cases hx
 | cons y t =>
   rw [hls] at hx hl
   rcases List.mem_cons.1 hx with e | e
   · rw [e]; exact hl y (by simp)
   · obtain ⟨z, hz, rfl⟩ := List.mem_map.1 e
     refine drop_blank ?_ (hl z (by simp [hz]))
     cases hi : Blk.inkB z with
     | false => exact fun c hc => ink_no hi c (List.mem_of_mem_take hc)
     | true =>
       refine lead_take z _ ?_
       have : Blk.indentL (y :: t) ≤ (Blk.leadN z : Int) := fold_lead t (-1) z hz hi
       omega
theorem quote_cases {l : List UInt8} {q : List UInt8 × Nat} (h : quoteL l = some q) : (∃ z r, l = 34 :: 34 :: 34 :: z ∧ rawL z = some r ∧ q = (Blk.valueL r.1, 3 + r.2)) ∨ (∃ t r, l = 34 :: t ∧ lineL t = some r ∧ q = (r.1, 1 + r.2)) := by
 cases l with
 | nil => cases h
 | cons b t =>
   have e : quoteL (b :: t) = if pre [34, 34, 34] (b :: t) then (rawL ((b :: t).drop 3)).map fun q => (Blk.valueL q.1, 3 + q.2) else if b == 34 then (lineL t).map fun q => (q.1, 1 + q.2) else none := rfl
   rw [e] at h
   by_cases hb : pre [34, 34, 34] (b :: t) = true
   · rw [if_pos hb] at h
     unfold pre at hb
     rw [List.isPrefixOf_iff_prefix] at hb
     obtain ⟨z, hz⟩ := hb
     have hz : b :: t = 34 :: 34 :: 34 :: z := hz.symm
     rw [hz] at h
     cases hr : rawL z with
     | none => simp only [List.drop_succ_cons, List.drop_zero, hr] at h; cases h
     | some r =>
       simp only [List.drop_succ_cons, List.drop_zero, hr] at h
       exact .inl ⟨z, r, hz, hr, (Option.some.inj h).symm⟩
   · rw [if_neg hb] at h
     by_cases hc : (b == 34) = true
     · rw [if_pos hc] at h
       have hc : b = 34 := by simpa using hc
       subst hc
       cases hr : lineL t with
       | none => rw [hr] at h; cases h
       | some r =>
         rw [hr] at h
         exact .inr ⟨t, r, rfl, hr, (Option.some.inj h).symm⟩
     · rw [if_neg hc] at h; cases h
theorem quote_good {l : List UInt8} {q : List UInt8 × Nat} (h : quoteL l = some q) (hg : goodB l = true) : goodB q.1 = true := by
 rcases quote_cases h with ⟨z, r, rfl, hr, rfl⟩ | ⟨t, r, rfl, hr, rfl⟩
 · rw [good_cons _ (by decide), good_cons _ (by decide), good_cons _ (by decide)] at hg
   exact value_good (raw_good _ z r [] hr hg)
 · rw [good_cons _ (by decide)] at hg
   exact line_good _ t r [] hr hg
theorem line_len : ∀ (n : Nat) (l : List UInt8) (q : List UInt8 × Nat), lineF n l = some q → q.1.length ≤ q.2
 | 0, _, _, h => by cases h
 | _ + 1, [], _, h => by cases h
 | n + 1, b :: t, q, h => by
   rw [lineF] at h
   split at h
   · cases h; simp
   · split at h
     · cases h
     · split at h
       · cases he : escL (b :: t) with
         | none => rw [he] at h; cases h
         | some e =>
           rw [he] at h
           simp only at h
           have h1 := escL_size he
           cases hr : lineF n ((b :: t).drop e.2) with
           | none => rw [hr] at h; cases h
           | some r =>
             rw [hr] at h
             have h := Option.some.inj h
             subst h
             have := line_len n _ r hr
             simp; omega
       · cases hr : lineF n t with
         | none => rw [hr] at h; cases h
         | some r =>
           rw [hr] at h
           have h := Option.some.inj h
           subst h
           have := line_len n _ r hr
           simp; omega
theorem quote_len {l : List UInt8} {q : List UInt8 × Nat} (h : quoteL l = some q) : q.1.length ≤ l.length := by
 have hle := (quoteL_le h).2
 rcases quote_cases h with ⟨z, r, rfl, hr, rfl⟩ | ⟨t, r, rfl, hr, rfl⟩
 · have h1 := rawF_le _ _ r hr
   have h2 := Blk.value_len r.1
   simp only at hle ⊢
   omega
 · have h1 := line_len _ _ r hr
   simp only at hle ⊢
   omega
theorem line_behind : ∀ (n : Nat) (l : List UInt8) (q : List UInt8 × Nat) (p : List UInt8), lineF n l = some q → goodB (p ++ l) = true → goodB (l.drop q.2) = true
 | 0, _, _, _, h, _ => by cases h
 | _ + 1, [], _, _, h, _ => by cases h
 | n + 1, b :: t, q, p, h, hg => by
   rw [lineF] at h
   split at h
   · rename_i hb
     have hb : b = 34 := by simpa using hb
     subst hb
     cases h
     exact (good_split (by decide) hg).2
   · split at h
     · cases h
     · split at h
       · rename_i hb
         have hb : b = 92 := by simpa using hb
         subst hb
         have hs := good_split (by decide) hg
         cases he : escL (92 :: t) with
         | none => rw [he] at h; cases h
         | some e =>
           rw [he] at h
           simp only at h
           obtain ⟨_, e2⟩ := esc_good he ⟨t, rfl⟩ (by rw [good_cons _ (by decide)]; exact hs.2)
           cases hr : lineF n ((92 :: t).drop e.2) with
           | none => rw [hr] at h; cases h
           | some r =>
             rw [hr] at h
             have h := Option.some.inj h
             subst h
             have := line_behind n _ r [] hr e2
             rwa [List.drop_drop] at this
       · cases hr : lineF n t with
         | none => rw [hr] at h; cases h
         | some r =>
           rw [hr] at h
           have h := Option.some.inj h
           subst h
           have := line_behind n t r (p ++ [b]) hr (by simpa using hg)
           show goodB ((b :: t).drop (1 + r.2)) = true
           rw [show 1 + r.2 = r.2 + 1 by omega, List.drop_succ_cons]; exact this
theorem raw_behind : ∀ (n : Nat) (l : List UInt8) (q : List UInt8 × Nat) (p : List UInt8), rawF n l = some q → goodB (p ++ l) = true → goodB (l.drop q.2) = true
 | 0, _, _, _, h, _ => by cases h
 | _ + 1, [], _, _, h, _ => by cases h
 | n + 1, b :: t, q, p, h, hg => by
   rw [rawF] at h
   split at h
   · rename_i hb
     cases h
     unfold pre at hb
     rw [List.isPrefixOf_iff_prefix] at hb
     obtain ⟨z, hz⟩ := hb
     have hz : b :: t = 34 :: 34 :: 34 :: z := hz.symm
     rw [hz] at hg ⊢
     have hs := (good_split (b := 34) (by decide) hg).2
     rw [good_cons _ (by decide), good_cons _ (by decide)] at hs
     exact hs
   · split at h
     · rename_i hb
       unfold pre at hb
       rw [List.isPrefixOf_iff_prefix] at hb
       obtain ⟨z, hz⟩ := hb
       have hz : b :: t = 92 :: 34 :: 34 :: 34 :: z := hz.symm
       rw [hz] at hg h ⊢
       have hs := good_split (b := 92) (by decide) hg
       rw [good_cons _ (by decide), good_cons _ (by decide), good_cons _ (by decide)] at hs
       cases hr : rawF n z with
       | none => simp only [List.drop_succ_cons, List.drop_zero, hr] at h; cases h
       | some r =>
         simp only [List.drop_succ_cons, List.drop_zero, hr] at h
         have h := Option.some.inj h
         subst h
         have := raw_behind n z r [] hr hs.2
         show goodB ((92 :: 34 :: 34 :: 34 :: z).drop (4 + r.2)) = true
         rw [show 4 + r.2 = r.2 + 4 by omega]; exact this
     · cases hr : rawF n t with
       | none => rw [hr] at h; cases h
       | some r =>
         rw [hr] at h
         have h := Option.some.inj h
         subst h
         have := raw_behind n t r (p ++ [b]) hr (by simpa using hg)
         show goodB ((b :: t).drop (1 + r.2)) = true
         rw [show 1 + r.2 = r.2 + 1 by omega, List.drop_succ_cons]; exact this
theorem quote_behind {l : List UInt8} {q : List UInt8 × Nat} (h : quoteL l = some q) (hg : goodB l = true) : goodB (l.drop q.2) = true := by
 rcases quote_cases h with ⟨z, r, rfl, hr, rfl⟩ | ⟨t, r, rfl, hr, rfl⟩
 · rw [good_cons _ (by decide), good_cons _ (by decide), good_cons _ (by decide)] at hg
   have := raw_behind _ z r [] hr hg
   show goodB ((34 :: 34 :: 34 :: z).drop (3 + r.2)) = true
   rw [show 3 + r.2 = r.2 + 3 by omega]; exact this
 · rw [good_cons _ (by decide)] at hg
   have := line_behind _ t r [] hr hg
   show goodB ((34 :: t).drop (1 + r.2)) = true
   rw [show 1 + r.2 = r.2 + 1 by omega]; exact this
theorem tok_good {l : List UInt8} {t : (Int × List UInt8) × Nat} (h : tokL l = some t) (hg : goodB l = true) : rightB t.1 = true ∧ t.1.2.length ≤ l.length ∧ goodB (l.drop t.2) = true := by
 unfold tokL at h
 split at h
 · rename_i hm
   have h := Option.some.inj h
   subst h
   cases l with
   | nil => exact absurd rfl hm
   | cons b r =>
     simp only [markN] at hm ⊢
     split at hm
     · rename_i hb
       rw [if_pos hb]
       unfold pre at hb
       rw [List.isPrefixOf_iff_prefix] at hb
       obtain ⟨z, hz⟩ := hb
       have hz : b :: r = 46 :: 46 :: 46 :: z := hz.symm
       rw [hz] at hg ⊢
       rw [good_cons _ (by decide), good_cons _ (by decide), good_cons _ (by decide)] at hg
       exact ⟨by simp [rightB, markN, pre, List.isPrefixOf], by simp, hg⟩
     · rename_i hb
       rw [if_neg hb] at ⊢
       split at hm
       · rename_i hi
         rw [if_pos hi]
         have ha : b.toNat < 128 := by
           have : ∀ b : UInt8, isMark b = true → b.toNat < 128 := byte_all (by decide +kernel)
           exact this b hi
         rw [good_cons _ ha] at hg
         refine ⟨?_, by simp, hg⟩
         have hp : pre [46, 46, 46] [b] = false := by simp [pre, List.isPrefixOf]
         simp [rightB, markN, hp, hi]
       · exact absurd rfl hm
 · split at h
   · rename_i hw
     have h := Option.some.inj h
     subst h
     have hn := word_name hw
     refine ⟨hn, by simp only [List.length_take]; omega, ?_⟩
     have := good_asc_app (l.drop (wordN l)) (a := l.take (wordN l)) (fun x hx => by
       have hx := List.all_eq_true.1 (name_ascii hn) x hx
       unfold ascB at hx
       rw [Bool.and_eq_true] at hx
       simpa using hx.2)
     rw [List.take_append_drop] at this
     rw [← this]; exact hg
   · split at h
     · rename_i hnu
       have h := Option.some.inj h
       subst h
       obtain ⟨h1, h2⟩ := number_take hnu
       have hk : kindL (l.take (nbL l).1) ≠ 0 := by rw [h1]; omega
       refine ⟨?_, by simp only [List.length_take]; omega, ?_⟩
       · have e1 : (nbL l).2 ≠ 1 := by omega
         have e2 : (nbL l).2 ≠ 2 := by omega
         simp only [rightB, e1, e2, if_false, h2, if_true, h1, decide_true]
       · have hs := (numbers_yes hk).2.1
         have := good_app (good_of_source hs) (l.drop (nbL l).1)
         rw [List.take_append_drop] at this
         rw [← this]; exact hg
     · cases hq : quoteL l with
       | none => rw [hq] at h; cases h
       | some q =>
         rw [hq] at h
         have h := Option.some.inj h
         subst h
         refine ⟨?_, quote_len hq, ?_⟩
         · show rightB (5, q.1) = true
           exact quote_good hq hg
         · exact quote_behind hq hg
theorem gap_good {l : List UInt8} (h : gapL l ≠ 0) (hg : goodB l = true) : goodB (l.drop (gapL l)) = true := by
 cases l with
 | nil => exact hg
 | cons b t =>
   by_cases h1 : isGap b = true
   · have ha : b.toNat < 128 := by
       have : ∀ b : UInt8, isGap b = true → b.toNat < 128 := byte_all (by decide +kernel)
       exact this b h1
     rw [show gapL (b :: t) = 1 by simp [gapL, h1]]
     rw [good_cons _ ha] at hg; exact hg
   · by_cases h2 : (b == 35) = true
     · have hb : b = 35 := by simpa using h2
       subst hb
       rw [show gapL (35 :: t) = 1 + (t.takeWhile noEol).length by simp [gapL, isGap]]
       rw [good_cons _ (by decide)] at hg
       rw [show 1 + (t.takeWhile noEol).length = (t.takeWhile noEol).length + 1 by omega, List.drop_succ_cons]
       have e : t = t.takeWhile noEol ++ t.dropWhile noEol := (List.takeWhile_append_dropWhile).symm
       have e2 : t.drop (t.takeWhile noEol).length = t.dropWhile noEol := by
         have : ∀ a b : List UInt8, (a ++ b).drop a.length = b := fun a b => List.drop_left
         have h7 := this (t.takeWhile noEol) (t.dropWhile noEol)
         rwa [← e] at h7
       rw [e2]
       cases hd : t.dropWhile noEol with
       | nil => rfl
       | cons c r =>
         have hc := drop_head hd
         have ha : c.toNat < 128 := by
           have : ∀ b : UInt8, noEol b = false → b.toNat < 128 := byte_all (by decide +kernel)
           exact this c hc
         rw [e, hd] at hg
         rw [good_cons _ ha]; exact (good_split ha hg).2
     · have h3 : pre [239, 187, 191] (b :: t) = true := by
         by_cases h3 : pre [239, 187, 191] (b :: t) = true
         · exact h3
         · exact absurd (by simp [gapL, h1, h2, h3]) h
       rw [show gapL (b :: t) = 3 by simp [gapL, h1, h2, h3]]
       unfold pre at h3
       rw [List.isPrefixOf_iff_prefix] at h3
       obtain ⟨z, hz⟩ := h3
       rw [← hz] at hg ⊢
       have e : goodB ([239, 187, 191] ++ z) = goodB z := good_app (by decide +kernel) z
       rw [e] at hg; exact hg
theorem readF_good : ∀ (n : Nat) (l : List UInt8) ts, readF n l = some ts → goodB l = true → ts.all rightB = true ∧ ∀ t ∈ ts, t.2.length ≤ l.length
 | 0, _, _, h, _ => by cases h
 | n + 1, l, ts, h, hg => by
   rw [readF] at h
   split at h
   · rename_i h0
     obtain ⟨h1, h2⟩ := readF_good n _ ts h (gap_good h0 hg)
     exact ⟨h1, fun t ht => Nat.le_trans (h2 t ht) (by rw [List.length_drop]; omega)⟩
   · split at h
     · cases h
       exact ⟨rfl, fun t ht => by cases ht⟩
     · cases hk : tokL l with
       | none => rw [hk] at h; cases h
       | some p =>
         rw [hk] at h
         obtain ⟨g1, g2, g3⟩ := tok_good hk hg
         cases hr : readF n (l.drop p.2) with
         | none => simp only [hr] at h; cases h
         | some us =>
           simp only [hr] at h
           have h := Option.some.inj h
           subst h
           obtain ⟨h1, h2⟩ := readF_good n _ us hr g3
           refine ⟨by rw [List.all_cons, g1, h1]; rfl, fun t ht => ?_⟩
           rcases List.mem_cons.1 ht with e | e
           · rw [e]; exact g2
           · exact Nat.le_trans (h2 t e) (by rw [List.length_drop]; omega)
theorem readS_right (l : List UInt8) : (readS l).1.all rightB = true ∧ ∀ t ∈ (readS l).1, t.2.length ≤ l.length := by
 unfold readS
 split
 · exact ⟨rfl, fun t ht => by cases ht⟩
 · split
   · exact ⟨rfl, fun t ht => by cases ht⟩
   · rename_i h0 h1
     have hs : sourceB l = true := by cases h : sourceB l with
      | true => rfl
      | false => exact absurd h h1
     cases h : readL l with
     | none => exact ⟨rfl, fun t ht => by cases ht⟩
     | some ts => exact readF_good _ l ts h (good_of_source hs)
theorem readS_goodD {s : ByteArray} (hs : s.size ≤ 9000) : GoodD (tokB (readS s.data.toList).1) := by
 obtain ⟨h1, h2⟩ := readS_right s.data.toList
 have h3 : s.data.toList.length = s.size := Array.length_toList
 refine ⟨fun t ht => ?_, readS_names hs⟩
 unfold tokB at ht
 obtain ⟨u, hu, rfl⟩ := List.mem_map.1 ht
 have hl := h2 u hu
 have hr := List.all_eq_true.1 h1 u hu
 refine ⟨by show (⟨u.2.toArray⟩ : ByteArray).size ≤ 9000; rw [Lib.size_eq]; show u.2.length ≤ 9000; omega, fun hk => ?_⟩
 have hk : u.1 = 3 := hk
 show kindL u.2.toArray.toList = 3
 rw [List.toList_toArray]
 unfold rightB at hr
 rw [hk] at hr
 simpa using hr
end Go.Proofs.YtpkmbhnikilihaaGreatDoor
