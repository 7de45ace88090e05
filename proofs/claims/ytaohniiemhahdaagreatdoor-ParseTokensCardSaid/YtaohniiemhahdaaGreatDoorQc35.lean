/- The landed Type: what the reader of tokens refuses. -/
import Derived.Test.YtaohniiemhahdaaGreatDoorQc26
import Derived.Test.YtaohniiemhahdaaGreatDoorQc25
import Derived.Deep.DeepCutAuto
namespace Go.Proofs.YtaohniiemhahdaaGreatDoor
open Go.RowKit

/-- What Type answers, and the error. -/
def typeA (l : List UInt8) : Value × Int :=
  if (readS l).2 ≠ 0 then (TZ, (readS l).2) else
    match typeR 4 (tokB (readS l).1) with
    | .error x => (TZ, x)
    | .ok ((n, k, m), r) => if r = [] then (.agg #[.string n, .int .i64 (k : Int), .int .i64 (m : Int)], 0) else (TZ, 2)
theorem readS_names {s : ByteArray} (hs : s.size ≤ 9000) : NamesT (tokB (readS s.data.toList).1) := by
  unfold readS
  split
  · intro t ht; cases ht
  · split
    · intro t ht; cases ht
    · cases h : readL s.data.toList with
      | none => intro t ht; cases ht
      | some ts => exact read_names hs h
theorem readF_len : ∀ (n : Nat) (l : List UInt8) ts, readF n l = some ts → ts.length ≤ n
  | 0, _, _, h => by cases h
  | n + 1, l, ts, h => by
    rw [readF] at h
    split at h
    · exact Nat.le_succ_of_le (readF_len n _ ts h)
    · split at h
      · cases h; simp
      · cases hk : tokL l with
        | none => rw [hk] at h; cases h
        | some p =>
          rw [hk] at h
          cases hr : readF n (l.drop p.2) with
          | none => simp only [hr] at h; cases h
          | some us =>
            simp only [hr] at h
            have h := Option.some.inj h
            subst h
            have := readF_len n _ us hr
            simp; omega
theorem readS_len {s : ByteArray} (hs : s.size ≤ 9000) : (readS s.data.toList).1.length ≤ 9001 := by
  have h3 : s.data.toList.length = s.size := Array.length_toList
  unfold readS
  split
  · simp
  · split
    · simp
    · cases h : readL s.data.toList with
      | none => simp
      | some ts => have := readF_len _ _ ts h; show ts.length ≤ _; omega
end Go.Proofs.YtaohniiemhahdaaGreatDoor
/- The walk of Number; worlds that keep what the package needs; the law's own examples. -/
namespace Go.Proofs.YtaohniiemhahdaaGreatDoor
open Go.RowKit

theorem number_zero {l : List UInt8} (h : (numberL l).1 = 0) : (numberL l).2 = 0 := by
  unfold numberL at *
  by_cases h0 : (numeralL l).1 = 0
  · rw [if_pos h0]
  · rw [if_neg h0] at h ⊢
    cases hb : behindB (l.drop (numeralL l).1)
    · rw [hb] at h; exact absurd h h0
    · rfl

set_option maxRecDepth 100000 in
theorem numberf_any (s : ByteArray) (w : World) (hs : s.size ≤ 9000) : Calls Tryz.prog 112 #[.string s] w fun e w' => e = .returned (.int .i64 (kindL s.data.toList)) ∧ Below w.heap.size w w' := by
  have hN := number_any s w hs
  have hk : kindL s.data.toList = if (numberL s.data.toList).1 < s.size then 0 else (numberL s.data.toList).2 := by unfold kindL; rw [len_data]
  have hz := fun h => number_zero (l := s.data.toList) h
  obtain ⟨n, hn⟩ : ∃ n, (numberL s.data.toList).1 = n := ⟨_, rfl⟩
  obtain ⟨k, hkk⟩ : ∃ k, (numberL s.data.toList).2 = k := ⟨_, rfl⟩
  rw [hn, hkk] at hN hk hz
  have hT : ∃ x : ByteArray, tokS k (s.data.toList.take n) n = .tuple #[.agg #[.int .i64 k, .string x], .int .i64 n] := by
    by_cases h0 : n = 0
    · rw [hz h0, h0]; exact ⟨_, rfl⟩
    · exact ⟨_, tokS_yes h0⟩
  obtain ⟨x, hx⟩ := hT
  rw [hx] at hN
  have HN := Lib.hid hN
  clear hN hx hz hn hkk
  by_cases hlt : n < s.size
  · have hlt' : (n : Int) < (s.size : Int) := by omega
    have hr : Hid (kindL s.data.toList = 0) := Lib.hid (by rw [hk, if_pos hlt])
    clear hk
    go_enter Tryz.func112, Tryz.ntmps112
    go_wp2_with fail
    refine HN.out.mono ?_
    rintro e w1 ⟨rfl, hb⟩
    have HB := Lib.hid hb
    have hbs := hb.size
    clear hb
    go_wp2_with fail
    go_ret
    exact ⟨ret_i (by rw [hr.out]), HB.out.alloc hbs _⟩
  · have hlt' : ¬ (n : Int) < (s.size : Int) := by omega
    have hr : Hid (kindL s.data.toList = k) := Lib.hid (by rw [hk, if_neg hlt])
    clear hk
    go_enter Tryz.func112, Tryz.ntmps112
    go_wp2_with fail
    refine HN.out.mono ?_
    rintro e w1 ⟨rfl, hb⟩
    have HB := Lib.hid hb
    have hbs := hb.size
    clear hb
    go_wp2_with fail
    go_ret
    exact ⟨ret_i (by rw [hr.out]), HB.out.alloc hbs _⟩

/-- A slice of tokens that reads as ts. -/
def ToksAt (w : World) (A : Option Addr) (cap : Nat) (ts : List (Int × List UInt8)) : Prop := (∀ (j : Nat) v, (tokVals ts)[j]? = some v → ∃ g, A = some ⟨g, 0, none⟩ ∧ g < w.heap.size ∧ w.cell? ⟨g, j, none⟩ = some v) ∧ ts.length ≤ cap
theorem ToksAt.on {w w' : World} {A : Option Addr} {cap : Nat} {ts : List (Int × List UInt8)} (h : ToksAt w A cap ts) (hb : Below w.heap.size w w') : ToksAt w' A cap ts :=
  ⟨fun j v hv => by
    obtain ⟨g, hA, hg, hc⟩ := h.1 j v hv
    exact ⟨g, hA, by have := hb.size; omega, (hb.cell (p := ⟨g, j, none⟩) hg).trans hc⟩, h.2⟩
theorem ToksAt.one {w : World} {A : Option Addr} {cap : Nat} {k : Int} {x : List UInt8} (h : ToksAt w A cap [(k, x)]) : ∃ g, A = some ⟨g, 0, none⟩ ∧ g < w.heap.size ∧ w.cell? ⟨g, 0, none⟩ = some (.int .i64 k) ∧ w.cell? ⟨g, 1, none⟩ = some (.string ⟨x.toArray⟩) := by
  obtain ⟨g, hA, hg, h0⟩ := h.1 0 _ rfl
  obtain ⟨g', hA', _, h1⟩ := h.1 1 _ rfl
  subst hA
  injection hA' with e
  injection e with e1
  subst e1
  exact ⟨g, rfl, hg, h0, h1⟩

/-- What the laws keep. -/
def K3 (w wx : World) : Prop := Laid3 wx ∧ Below w.heap.size w wx
theorem K3.start {w : World} (h : Laid3 w) : K3 w w := ⟨h, Below.refl _ _⟩
theorem K3.next {w wx wy : World} (h : K3 w wx) (hb : Below wx.heap.size wx wy) : K3 w wy := ⟨h.1.below hb, h.2.trans (hb.mono h.2.size)⟩
theorem K3.alloc {w wx : World} (h : K3 w wx) (o : Obj) : K3 w (wx.alloc o) := h.next ((Below.refl _ _).alloc (Nat.le_refl _) o)
def exToks : List (Int × List UInt8) := [(1, [123]), (2, [97]), (1, [40]), (2, [98]), (1, [58]), (3, [45, 49]), (1, [41]), (1, [125])]
end Go.Proofs.YtaohniiemhahdaaGreatDoor
/- The walk of the law TokenNumbers. -/
namespace Go.Proofs.YtaohniiemhahdaaGreatDoor
open Go.RowKit

namespace LNumbers

end LNumbers
end Go.Proofs.YtaohniiemhahdaaGreatDoor
/- The walk of the law TokenUnits. -/
namespace Go.Proofs.YtaohniiemhahdaaGreatDoor
open Go.RowKit

def hexD (x : Int) : UInt8 := if x < 10 then (48 + x).toNat.toUInt8 else (87 + x).toNat.toUInt8
def hexText (u : Int) : List UInt8 := [92, 117, hexD (u / 4096 % 16), hexD (u / 256 % 16), hexD (u / 16 % 16), hexD (u % 16)]
theorem hexD_all : ∀ x : Fin 16, hexB (hexD (x.val : Int)) = true ∧ hexI (hexD (x.val : Int)) = (x.val : Int) ∧ ascB (hexD (x.val : Int)) = true := by decide +kernel
theorem hexD_ok {x : Int} (h0 : 0 ≤ x) (h1 : x < 16) : hexB (hexD x) = true ∧ hexI (hexD x) = x ∧ ascB (hexD x) = true := by
  obtain ⟨n, rfl⟩ := Int.eq_ofNat_of_zero_le h0
  exact hexD_all ⟨n, by omega⟩
theorem unit_text {u : Int} (h0 : 0 ≤ u) (h1 : u ≤ 65535) (r : List UInt8) : unitAt (hexText u ++ r) = some u := by
  obtain ⟨a1, a2, _⟩ := hexD_ok (x := u / 4096 % 16) (by omega) (by omega)
  obtain ⟨b1, b2, _⟩ := hexD_ok (x := u / 256 % 16) (by omega) (by omega)
  obtain ⟨c1, c2, _⟩ := hexD_ok (x := u / 16 % 16) (by omega) (by omega)
  obtain ⟨d1, d2, _⟩ := hexD_ok (x := u % 16) (by omega) (by omega)
  show unitAt (92 :: 117 :: _ :: _ :: _ :: _ :: r) = _
  rw [unit_pu]
  simp only [pu, a1, b1, c1, d1, a2, b2, c2, d2, if_true, Option.some.injEq]
  omega
theorem tok_quote (t : List UInt8) : gapL (34 :: t) = 0 ∧ tokL (34 :: t) = (quoteL (34 :: t)).map fun q => ((5, q.1), q.2) := by
  have g : gapL (34 :: t) = 0 := by simp [gapL, isGap, pre_ne (show (34 : UInt8) ≠ 239 by decide)]
  have m : markN (34 :: t) = 0 := by simp [markN, pre_ne (show (34 : UInt8) ≠ 46 by decide), show isMark 34 = false by decide]
  have w : wordN (34 :: t) = 0 := by simp [wordN, show letU 34 = false by decide]
  have n : (numberL (34 :: t)).1 = 0 := by
    by_cases h : (numberL (34 :: t)).1 = 0
    · exact h
    · obtain ⟨_, _, h0⟩ := number_cases h
      obtain ⟨b, t', e, hb⟩ := numeralL_head h0
      cases e
      exact absurd hb (by decide)
  refine ⟨g, ?_⟩
  unfold tokL
  rw [if_neg (by rw [m]; simp), if_neg (by rw [w]; simp), if_neg (by rw [n]; simp)]
theorem text_len : ∀ zs : List Int, (zs.flatMap hexText).length = 6 * zs.length := by
  intro zs
  induction zs with
  | nil => rfl
  | cons z zs ih => rw [List.flatMap_cons, List.length_append, ih, List.length_cons]; show 6 + _ = _; omega
theorem text_asc {zs : List Int} (h : ∀ z ∈ zs, 0 ≤ z ∧ z ≤ 65535) : (zs.flatMap hexText).all ascB = true := by
  rw [List.all_flatMap, List.all_eq_true]
  intro z hz
  have hz := h z hz
  have a := (hexD_ok (x := z / 4096 % 16) (by omega) (by omega)).2.2
  have b := (hexD_ok (x := z / 256 % 16) (by omega) (by omega)).2.2
  have c := (hexD_ok (x := z / 16 % 16) (by omega) (by omega)).2.2
  have d := (hexD_ok (x := z % 16) (by omega) (by omega)).2.2
  simp only [hexText, List.all_cons, List.all_nil, a, b, c, d]
  decide
abbrev digC : ByteArray := ⟨#[48, 49, 50, 51, 52, 53, 54, 55, 56, 57, 97, 98, 99, 100, 101, 102, 65, 66, 67, 68, 69, 70]⟩
theorem and_low4 {x : Int} (h0 : 0 ≤ x) (h1 : x < 9223372036854775808) : bits .and .i64 x 15 = x % 16 := by
  obtain ⟨a, rfl⟩ := Int.eq_ofNat_of_zero_le h0
  show IntKind.i64.wrap ((BitVec.ofInt 64 (a : Int) &&& BitVec.ofInt 64 ((15 : Nat) : Int)).toNat : Int) = _
  rw [BitVec.toNat_and, ofInt_i64 a (by omega), ofInt_i64 15 (by omega), show (15 : Nat) = 2 ^ 4 - 1 from rfl, Nat.and_two_pow_sub_one_eq_mod, IntKind.wrap_i64]
  omega
theorem take_text {zs : List Int} {i : Nat} {z : Int} (h : zs[i]? = some z) : (zs.take (i + 1)).flatMap hexText = (zs.take i).flatMap hexText ++ hexText z := by
  rw [List.take_add_one, h]
  simp [List.flatMap_append]
namespace LUnits

end LUnits
end Go.Proofs.YtaohniiemhahdaaGreatDoor
/- Plain facts on tokens that are printed: they read as they were. -/
namespace Go.Proofs.YtaohniiemhahdaaGreatDoor

/-- How a code point is printed within a quote. -/
def printQ (c : Int) : List UInt8 :=
  if c = 34 then [92, 34] else if c = 92 then [92, 92] else if c = 10 then [92, 110] else if c < 32 ∨ 65535 < c then (unitOf c).flatMap hexText else Lib.encodeRune c
def quoteT (cs : List Int) : List UInt8 := 34 :: (cs.flatMap printQ ++ [34])
def codesT (x : List UInt8) : List Int := match codes x with | some cs => cs | none => []
def printT (t : Int × List UInt8) : List UInt8 := if t.1 = 5 then quoteT (codesT t.2) else t.2
def rightB (t : Int × List UInt8) : Bool :=
  if t.1 = 1 then decide (0 < markN t.2 ∧ markN t.2 = t.2.length) else if t.1 = 2 then nameB t.2 else if t.1 = 3 ∨ t.1 = 4 then decide (kindL t.2 = t.1) else if t.1 = 5 then goodB t.2 else false
def endB (r : List UInt8) : Prop := r = [] ∨ ∃ r', r = 32 :: r'

/- The bytes of a code point. -/
theorem toNat_byte {z : Int} (h0 : 0 ≤ z) (h1 : z < 256) : ((z.toNat.toUInt8).toNat : Int) = z := toNat_ofInt h0 h1
theorem enc_high {c : Int} (h : 128 ≤ c) : ∀ b ∈ Lib.encodeRune c, 128 ≤ b.toNat := by
  intro b hb
  unfold Lib.encodeRune at hb
  obtain ⟨z, hz, rfl⟩ := List.mem_map.1 hb
  have hb := Lib.encodeRuneZ_byte c z hz
  have hz2 : 128 ≤ z := by
    unfold Lib.encodeRuneZ at hz
    split at hz
    · omega
    · split at hz
      · simp at hz; omega
      · split at hz
        · simp at hz; omega
        · split at hz
          · simp at hz; omega
          · simp at hz; omega
  have := toNat_byte hb.1 hb.2
  omega
theorem enc_low {c : Int} (h0 : 0 ≤ c) (h1 : c < 128) : Lib.encodeRune c = [c.toNat.toUInt8] := by
  unfold Lib.encodeRune
  rw [Lib.encodeRuneZ_one h0 (by omega)]
  rfl
/-- A byte that stands for itself within a quote. -/
def selfB (b : UInt8) : Bool := !(b == 34) && !(b == 10) && !(b == 13) && !(b == 92)
theorem self_high : ∀ b : UInt8, 128 ≤ b.toNat → selfB b = true := byte_all (by decide +kernel)
theorem self_low : ∀ b : UInt8, (b.toNat : Int) ≠ 34 → (b.toNat : Int) ≠ 92 → 32 ≤ b.toNat → selfB b = true := byte_all (by decide +kernel)
theorem enc_self {c : Int} (h0 : 32 ≤ c) (h1 : c ≤ 65535) (a : c ≠ 34) (b : c ≠ 92) : ∀ x ∈ Lib.encodeRune c, selfB x = true := by
  by_cases h : 128 ≤ c
  · exact fun x hx => self_high x (enc_high h x hx)
  · intro x hx
    rw [enc_low (by omega) (by omega), List.mem_singleton] at hx
    subst hx
    have := toNat_byte (z := c) (by omega) (by omega)
    exact self_low _ (by omega) (by omega) (by omega)
theorem line_self : ∀ {p : List UInt8} (r : List UInt8), (∀ x ∈ p, selfB x = true) → lineL (p ++ r) = (lineL r).map fun q => (p ++ q.1, p.length + q.2) := by
  intro p
  induction p with
  | nil => intro r _; show lineL r = _; cases lineL r <;> simp
  | cons b p ih =>
    intro r h
    have hb := h b (by simp)
    unfold selfB at hb
    simp only [Bool.and_eq_true, Bool.not_eq_true'] at hb
    obtain ⟨⟨⟨h34, h10⟩, h13⟩, h92⟩ := hb
    rw [List.cons_append, lineL_cons, h34, h10, h13, h92, ih r (fun x hx => h x (by simp [hx]))]
    cases lineL r with
    | none => rfl
    | some q => simp; omega
theorem unit_none_head {b : UInt8} {l : List UInt8} (h : b ≠ 92) : unitAt (b :: l) = none := by
  cases hu : unitAt (b :: l) with
  | none => rfl
  | some u => obtain ⟨t, e⟩ := unitAt_head hu; injection e with e; exact absurd e h
theorem unit_none_two {b : UInt8} {l : List UInt8} (h : b ≠ 117) : unitAt (92 :: b :: l) = none := by
  cases hu : unitAt (92 :: b :: l) with
  | none => rfl
  | some u => obtain ⟨t, e⟩ := unitAt_head hu; injection e with _ e; injection e with e; exact absurd e h
theorem line_esc {b x : UInt8} (r : List UInt8) (h : b ≠ 117) (he : escB b = some x) : lineL (92 :: b :: r) = (lineL r).map fun q => ([x] ++ q.1, 2 + q.2) := by
  have e : escL (92 :: b :: r) = some ([x], 2) := by
    unfold escL
    rw [if_pos (hexRun_none (unit_none_two h))]
    show (escB b).map _ = _
    rw [he]
    rfl
  rw [lineL_cons, e]
  rfl
theorem join_units {ds : List Int} (h : ds.all okB = true) : joinL (unitsOf ds) = some (bytesOf ds) := by
  unfold joinL
  rw [pairUp_units ds h]
  rfl
theorem unit_range {c : Int} (h : okB c = true) : ∀ z ∈ unitOf c, 0 ≤ z ∧ z ≤ 65535 := by
  have h' : 0 ≤ c ∧ c ≤ 1114111 ∧ halfB c = false := by simpa [okB] using h
  intro z hz
  unfold unitOf at hz
  split at hz
  · simp at hz; omega
  · simp at hz; omega
theorem lineU_append : ∀ (zs us : List Int) (r : List UInt8), (∀ z ∈ zs, 0 ≤ z ∧ z ≤ 65535) → lineU us (zs.flatMap hexText ++ r) = (lineU (us ++ zs) r).map fun q => (q.1, 6 * zs.length + q.2) := by
  intro zs
  induction zs with
  | nil => intro us r _; rw [List.append_nil]; show lineU us r = _; cases lineU us r <;> simp
  | cons z zs ih =>
    intro us r h
    have hz := h z (by simp)
    rw [List.flatMap_cons, List.append_assoc, lineU_unit (unit_text hz.1 hz.2 _)]
    have e : (hexText z ++ (zs.flatMap hexText ++ r)).drop 6 = zs.flatMap hexText ++ r := rfl
    rw [e, ih (us ++ [z]) r (fun x hx => h x (by simp [hx])), List.append_assoc, List.singleton_append, Option.map_map]
    congr 1
    funext q
    simp only [Function.comp, List.length_cons, Prod.mk.injEq, true_and]
    omega
/-- What a quote that is printed says. -/
theorem quote_codes : ∀ (cs ds : List Int) (r : List UInt8), cs.all okB = true → ds.all okB = true → lineU (unitsOf ds) (cs.flatMap printQ ++ (34 :: r)) = some (bytesOf ds ++ bytesOf cs, (cs.flatMap printQ).length + 1) := by
  intro cs
  induction cs with
  | nil =>
    intro ds r _ hd
    rw [List.flatMap_nil, List.nil_append, lineU_none (unit_none_head (by decide)), join_units hd]
    simp [lineL_cons, bytesOf]
  | cons c cs ih =>
    intro ds r hc hd
    simp only [List.all_cons, Bool.and_eq_true] at hc
    obtain ⟨hc1, hc2⟩ := hc
    have hcr : 0 ≤ c ∧ c ≤ 1114111 ∧ halfB c = false := by simpa [okB] using hc1
    have hb : bytesOf (c :: cs) = Lib.encodeRune c ++ bytesOf cs := rfl
    have h0 := ih [] r hc2 rfl
    rw [show unitsOf [] = [] from rfl, lineU_nil, show bytesOf [] = [] from rfl, List.nil_append] at h0
    rw [List.flatMap_cons, List.append_assoc, hb]
    have esc : ∀ (b x : UInt8), b ≠ 117 → escB b = some x → Lib.encodeRune c = [x] → printQ c = [92, b] → lineU (unitsOf ds) (printQ c ++ (cs.flatMap printQ ++ 34 :: r)) = some (bytesOf ds ++ (Lib.encodeRune c ++ bytesOf cs), (printQ c ++ cs.flatMap printQ).length + 1) := by
      intro b x hb he hx hp
      rw [hp, hx]
      show lineU _ (92 :: b :: (cs.flatMap printQ ++ 34 :: r)) = _
      rw [lineU_none (unit_none_two hb), join_units hd]
      simp only
      rw [line_esc _ hb he, h0]
      simp
      omega
    by_cases h34 : c = 34
    · exact esc 34 34 (by decide) rfl (by rw [h34]; decide) (by unfold printQ; rw [if_pos h34])
    by_cases h92 : c = 92
    · exact esc 92 92 (by decide) rfl (by rw [h92]; decide) (by unfold printQ; rw [if_neg h34, if_pos h92])
    by_cases h10 : c = 10
    · exact esc 110 10 (by decide) rfl (by rw [h10]; decide) (by unfold printQ; rw [if_neg h34, if_neg h92, if_pos h10])
    by_cases hu : c < 32 ∨ 65535 < c
    · have hp : printQ c = (unitOf c).flatMap hexText := by unfold printQ; rw [if_neg h34, if_neg h92, if_neg h10, if_pos hu]
      have h1 := ih (ds ++ [c]) r hc2 (by rw [List.all_append, hd]; simp [hc1])
      have e1 : unitsOf (ds ++ [c]) = unitsOf ds ++ unitOf c := by unfold unitsOf; simp [List.flatMap_append]
      have e2 : bytesOf (ds ++ [c]) = bytesOf ds ++ Lib.encodeRune c := by unfold bytesOf; simp [List.flatMap_append]
      rw [e1, e2] at h1
      rw [hp, lineU_append _ _ _ (unit_range hc1), h1]
      simp only [Option.map_some, List.length_append, text_len, List.append_assoc, Option.some.injEq, Prod.mk.injEq, true_and]
      omega
    · have hp : printQ c = Lib.encodeRune c := by unfold printQ; rw [if_neg h34, if_neg h92, if_neg h10, if_neg hu]
      have hs := enc_self (c := c) (by omega) (by omega) h34 h92
      rw [hp]
      have hne := encode_ne c
      cases he : Lib.encodeRune c with
      | nil => exact absurd he hne
      | cons b t =>
        rw [he] at hs
        have hb92 : b ≠ 92 := by
          have := hs b (by simp)
          unfold selfB at this
          intro e
          subst e
          exact absurd this (by decide)
        rw [List.cons_append, lineU_none (unit_none_head hb92), join_units hd]
        simp only
        rw [← List.cons_append, line_self _ hs, h0]
        simp
        omega
end Go.Proofs.YtaohniiemhahdaaGreatDoor

/- Plain facts: each token that may be, printed, reads as itself; so do all of them. -/
namespace Go.Proofs.YtaohniiemhahdaaGreatDoor

theorem end_dig {r : List UInt8} (h : endB r) : runL r = 0 ∧ fracL r = 0 ∧ signL r = 0 ∧ expoL r = 0 ∧ minusL r = 0 ∧ wholeL r = 0 ∧ behindB r = false ∧ r.takeWhile nameU = [] := by
  rcases h with rfl | ⟨r', rfl⟩
  · refine ⟨rfl, rfl, rfl, rfl, rfl, rfl, rfl, rfl⟩
  · have d : digU 32 = false := by decide
    have n : nameU 32 = false := by decide
    have l : letU 32 = false := by decide
    have hrun : runL (32 :: r') = 0 := by unfold runL; rw [List.takeWhile_cons, d]; rfl
    refine ⟨hrun, rfl, rfl, rfl, rfl, ?_, ?_, ?_⟩
    · show (if ((32 : UInt8) == 48) then 1 else runL (32 :: r')) = 0
      rw [hrun]; rfl
    · simp [behindB, d, l]
    · rw [List.takeWhile_cons, n]; rfl
theorem run_end {r : List UInt8} (h : endB r) : ∀ l : List UInt8, runL (l ++ r) = runL l := by
  intro l
  induction l with
  | nil => rw [List.nil_append, (end_dig h).1]; rfl
  | cons b t ih =>
    rw [List.cons_append]
    cases hb : digU b
    · rw [runL_no (show headB digU (b :: (t ++ r)) = false from hb), runL_no (show headB digU (b :: t) = false from hb)]
    · rw [runL_yes hb, runL_yes hb, ih]
theorem frac_end {r : List UInt8} (h : endB r) (l : List UInt8) : fracL (l ++ r) = fracL l := by
  cases l with
  | nil => rw [List.nil_append, (end_dig h).2.1]; rfl
  | cons b t => rw [List.cons_append]; simp only [fracL, run_end h]
theorem sign_end {r : List UInt8} (h : endB r) (l : List UInt8) : signL (l ++ r) = signL l := by
  cases l with
  | nil => rw [List.nil_append, (end_dig h).2.2.1]; rfl
  | cons b t => rfl
theorem drop_end {l r : List UInt8} {k : Nat} (h : k ≤ l.length) : (l ++ r).drop k = l.drop k ++ r := List.drop_append_of_le_length h
theorem expo_end {r : List UInt8} (h : endB r) (l : List UInt8) : expoL (l ++ r) = expoL l := by
  cases l with
  | nil => rw [List.nil_append, (end_dig h).2.2.2.1]; rfl
  | cons b t => rw [List.cons_append]; simp only [expoL, sign_end h, drop_end (signL_le t), run_end h]
theorem minus_end {r : List UInt8} (h : endB r) (l : List UInt8) : minusL (l ++ r) = minusL l := by
  cases l with
  | nil => rw [List.nil_append, (end_dig h).2.2.2.2.1]; rfl
  | cons b t => rfl
theorem whole_end {r : List UInt8} (h : endB r) (l : List UInt8) : wholeL (l ++ r) = wholeL l := by
  cases l with
  | nil => rw [List.nil_append, (end_dig h).2.2.2.2.2.1]; rfl
  | cons b t =>
    rw [List.cons_append]
    simp only [wholeL]
    rw [← List.cons_append, run_end h]
theorem numeral_end {r : List UInt8} (h : endB r) (l : List UInt8) : numeralL (l ++ r) = numeralL l := by
  have h1 := minusL_le l
  have h2 := wholeL_le (l.drop (minusL l))
  rw [List.length_drop] at h2
  have h3 := fracL_le (l.drop (minusL l + wholeL (l.drop (minusL l))))
  rw [List.length_drop] at h3
  unfold numeralL
  rw [minus_end h, drop_end h1, whole_end h, drop_end (by omega), frac_end h, drop_end (by omega), expo_end h]
theorem kind_number {x : List UInt8} {k : Int} (hk : kindL x = k) (h0 : k ≠ 0) : numeralL x = (x.length, k) ∧ x ≠ [] := by
  rw [kindL_eq] at hk
  by_cases hl : (numeralL x).1 ≠ x.length
  · rw [if_pos hl] at hk; exact absurd hk.symm h0
  · rw [if_neg hl] at hk
    have hl' : (numeralL x).1 = x.length := by omega
    refine ⟨by rw [← hk, ← hl'], ?_⟩
    intro e
    subst e
    exact h0 (by rw [← hk]; rfl)
theorem letter_byte : ∀ b : UInt8, letU b = true → isMark b = false ∧ isGap b = false ∧ (b == 35) = false ∧ b ≠ 239 ∧ b ≠ 46 := byte_all (by decide +kernel)
theorem mark_byte : ∀ b : UInt8, isMark b = true → isGap b = false ∧ (b == 35) = false ∧ b ≠ 239 ∧ b ≠ 46 ∧ letU b = false := byte_all (by decide +kernel)

/-- A quote that is printed reads as its code points. -/
theorem quote_back {cs : List Int} (h : cs.all okB = true) (r : List UInt8) (hr : endB r) : quoteL (quoteT cs ++ r) = some (bytesOf cs, (quoteT cs).length) := by
  have e : quoteT cs ++ r = 34 :: (cs.flatMap printQ ++ (34 :: r)) := by unfold quoteT; simp
  have hq := quote_codes cs [] r h rfl
  rw [show unitsOf [] = [] from rfl, lineU_nil, show bytesOf [] = [] from rfl, List.nil_append] at hq
  have hp : pre [34, 34, 34] (34 :: (cs.flatMap printQ ++ (34 :: r))) = false := by
    cases cs with
    | nil =>
      rcases hr with rfl | ⟨r', rfl⟩
      · rfl
      · rfl
    | cons c cs =>
      have hc : ∃ b t, printQ c = b :: t ∧ b ≠ 34 := by
        unfold printQ
        split
        · exact ⟨_, _, rfl, by decide⟩
        · split
          · exact ⟨_, _, rfl, by decide⟩
          · split
            · exact ⟨_, _, rfl, by decide⟩
            · split
              · unfold unitOf
                split
                · exact ⟨_, _, rfl, by decide⟩
                · exact ⟨_, _, rfl, by decide⟩
              · rename_i h34 h92 h10 hu
                cases he : Lib.encodeRune c with
                | nil => exact absurd he (encode_ne c)
                | cons b t =>
                  have hs := enc_self (c := c) (by omega) (by omega) h34 h92 b (by rw [he]; simp)
                  refine ⟨b, t, rfl, fun e => ?_⟩
                  subst e
                  exact absurd hs (by decide)
      obtain ⟨b, t, hb, hne⟩ := hc
      rw [List.flatMap_cons, hb]
      show pre [34, 34, 34] (34 :: b :: _) = false
      unfold pre
      have : ((34 : UInt8) == b) = false := by simpa using fun e => hne e.symm
      simp [List.isPrefixOf, this]
  rw [e]
  simp only [quoteL, hp, Bool.false_eq_true, if_false, show ((34 : UInt8) == 34) = true from rfl, if_true, hq, Option.map_some]
  unfold quoteT
  simp
  omega
theorem tok_back {t : Int × List UInt8} (ht : rightB t = true) {r : List UInt8} (hr : endB r) : gapL (printT t ++ r) = 0 ∧ printT t ++ r ≠ [] ∧ tokL (printT t ++ r) = some (t, (printT t).length) := by
  obtain ⟨k, x⟩ := t
  obtain ⟨_, _, _, _, _, _, hbeh, hnam⟩ := end_dig hr
  unfold rightB at ht
  simp only at ht
  by_cases k1 : k = 1
  · rw [if_pos k1] at ht
    subst k1
    have hp : printT (1, x) = x := rfl
    rw [hp]
    simp only [decide_eq_true_eq] at ht
    obtain ⟨m0, ml⟩ := ht
    cases x with
    | nil => simp [markN] at m0
    | cons b s =>
      rw [List.cons_append]
      have hm : markN (b :: (s ++ r)) = (b :: s).length ∧ gapL (b :: (s ++ r)) = 0 := by
        unfold markN at ml
        simp only at ml
        split at ml
        · rename_i hd
          unfold pre at hd
          rw [List.isPrefixOf_iff_prefix] at hd
          have e : [46, 46, 46] = b :: s := hd.eq_of_length (by simpa using ml)
          injection e with e1 e2
          subst e1 e2
          exact ⟨rfl, rfl⟩
        · split at ml
          · rename_i hd hm
            have hs : s = [] := by simpa using ml
            subst hs
            obtain ⟨g1, g2, g3, g4, _⟩ := mark_byte b hm
            exact ⟨by simp [markN, pre_ne g4, hm], by simp [gapL, g1, g2, pre_ne g3]⟩
          · simp at ml
      refine ⟨hm.2, by simp, ?_⟩
      unfold tokL
      rw [if_pos (by rw [hm.1]; simp), hm.1, ← List.cons_append, List.take_left]
  rw [if_neg k1] at ht
  by_cases k2 : k = 2
  · rw [if_pos k2] at ht
    subst k2
    have hp : printT (2, x) = x := rfl
    rw [hp]
    cases x with
    | nil => cases ht
    | cons b s =>
      simp only [nameB, Bool.and_eq_true] at ht
      have hb : letU b = true := ht.1
      have hs : s.all nameU = true := ht.2
      obtain ⟨m1, m2, m3, m4, m5⟩ := letter_byte b hb
      rw [List.cons_append]
      have hw : wordN (b :: (s ++ r)) = (b :: s).length := by
        simp only [wordN, hb, if_true]
        rw [List.takeWhile_append_of_pos (by simpa [List.all_eq_true] using hs), hnam, List.append_nil, List.length_cons]
        omega
      have hm : markN (b :: (s ++ r)) = 0 := by simp [markN, pre_ne m5, m1]
      refine ⟨by simp [gapL, m2, m3, pre_ne m4], by simp, ?_⟩
      unfold tokL
      rw [if_neg (by rw [hm]; simp), if_pos (by rw [hw]; simp), hw, ← List.cons_append, List.take_left]
  rw [if_neg k2] at ht
  by_cases k34 : k = 3 ∨ k = 4
  · rw [if_pos k34] at ht
    have hp : printT (k, x) = x := by unfold printT; rw [if_neg (by show ¬ k = 5; omega)]
    rw [hp]
    have hk : kindL x = k := by simpa using ht
    obtain ⟨hn, hne⟩ := kind_number hk (by omega)
    have hN : numberL (x ++ r) = (x.length, k) := number_good (by rw [numeral_end hr, hn]) (by intro e; exact hne (List.eq_nil_of_length_eq_zero e)) (by rw [List.drop_left]; exact hbeh)
    have hN0 : (numberL (x ++ r)).1 ≠ 0 := by rw [hN]; intro e; exact hne (List.eq_nil_of_length_eq_zero e)
    obtain ⟨g, tk⟩ := tok_number hN0
    refine ⟨g, by intro e; rw [e] at hN0; exact hN0 rfl, ?_⟩
    rw [tk, hN, List.take_left]
  rw [if_neg k34] at ht
  by_cases k5 : k = 5
  · rw [if_pos k5] at ht
    subst k5
    have hp : printT (5, x) = quoteT (codesT x) := rfl
    rw [hp]
    rw [goodB_iff] at ht
    cases hc : codes x with
    | none => rw [hc] at ht; cases ht
    | some cs =>
      obtain ⟨hb, ho⟩ := bytes_codes x.length x cs (Nat.le_refl _) hc
      have hct : codesT x = cs := by unfold codesT; rw [hc]
      rw [hct]
      have hq := quote_back ho r hr
      have e : quoteT cs ++ r = 34 :: (cs.flatMap printQ ++ [34] ++ r) := by unfold quoteT; simp
      obtain ⟨g, tk⟩ := tok_quote (cs.flatMap printQ ++ [34] ++ r)
      rw [← e] at g tk
      refine ⟨g, by rw [e]; simp, ?_⟩
      rw [tk, hq, hb]
      rfl
  · rw [if_neg k5] at ht
    cases ht
theorem read_back {t : Int × List UInt8} (ht : rightB t = true) {r : List UInt8} (hr : endB r) : readL (printT t ++ r) = (readL r).map (t :: ·) := by
  obtain ⟨g, n, k⟩ := tok_back ht hr
  rw [readL_tok g n k, List.drop_left]
theorem read_blank (r : List UInt8) : readL (32 :: r) = readL r := by
  rw [readL_gap (by simp [gapL, isGap])]
  rfl
/-- The text of tokens. -/
def printL : List (Int × List UInt8) → List UInt8
  | [] => []
  | t :: ts => printT t ++ (if ts = [] then [] else 32 :: printL ts)
theorem read_print : ∀ ts : List (Int × List UInt8), ts.all rightB = true → readL (printL ts) = some ts := by
  intro ts
  induction ts with
  | nil => intro _; rfl
  | cons t ts ih =>
    intro h
    simp only [List.all_cons, Bool.and_eq_true] at h
    simp only [printL]
    by_cases he : ts = []
    · subst he
      rw [if_pos rfl, read_back h.1 (.inl rfl), readL_nil]
      rfl
    · rw [if_neg he, read_back h.1 (.inr ⟨_, rfl⟩), read_blank, ih h.2]
      rfl
theorem print_snoc (t : Int × List UInt8) : ∀ ts : List (Int × List UInt8), ts ≠ [] → printL (ts ++ [t]) = printL ts ++ 32 :: printT t := by
  intro ts
  induction ts with
  | nil => intro h; exact absurd rfl h
  | cons u ts ih =>
    intro _
    rw [List.cons_append]
    simp only [printL]
    by_cases he : ts = []
    · subst he
      simp [printL]
    · rw [if_neg (by simp), if_neg he, ih he]
      simp
end Go.Proofs.YtaohniiemhahdaaGreatDoor

/- Plain facts: what is printed is a source text; what may stand between tokens. -/
namespace Go.Proofs.YtaohniiemhahdaaGreatDoor

theorem source_enc {c : Int} (h : okB c = true) (hs : srcB c = true) : sourceB (Lib.encodeRune c) = true := by
  have h1 := codes_bytes [c] [] (by simp [h])
  rw [List.append_nil, show bytesOf [c] = Lib.encodeRune c by simp [bytesOf]] at h1
  unfold sourceB eachP
  rw [h1, codes_nil]
  simp [hs]
theorem hexText_asc {z : Int} (h : 0 ≤ z ∧ z ≤ 65535) : (hexText z).all ascB = true := by
  have := text_asc (zs := [z]) (by simpa using h)
  simpa using this
theorem source_printQ {c : Int} (h : okB c = true) : sourceB (printQ c) = true := by
  have hcr : 0 ≤ c ∧ c ≤ 1114111 ∧ halfB c = false := by simpa [okB] using h
  unfold printQ
  split
  · decide +kernel
  · split
    · decide +kernel
    · split
      · decide +kernel
      · split
        · refine source_ascii ?_
          rw [List.all_flatMap, List.all_eq_true]
          exact fun z hz => hexText_asc (unit_range h z hz)
        · exact source_enc h (by simp [srcB]; omega)
theorem source_flat : ∀ {cs : List Int}, cs.all okB = true → sourceB (cs.flatMap printQ) = true := by
  intro cs
  induction cs with
  | nil => intro _; rfl
  | cons c cs ih =>
    intro h
    simp only [List.all_cons, Bool.and_eq_true] at h
    rw [List.flatMap_cons, source_append (source_printQ h.1), ih h.2]
theorem source_printT {t : Int × List UInt8} (ht : rightB t = true) : sourceB (printT t) = true := by
  obtain ⟨k, x⟩ := t
  unfold rightB at ht
  simp only at ht
  by_cases k1 : k = 1
  · rw [if_pos k1] at ht
    have hp : printT (k, x) = x := by unfold printT; rw [if_neg (by show ¬ k = 5; omega)]
    rw [hp]
    refine source_ascii ?_
    simp only [decide_eq_true_eq] at ht
    obtain ⟨m0, ml⟩ := ht
    cases x with
    | nil => rfl
    | cons b s =>
      unfold markN at ml
      simp only at ml
      split at ml
      · rename_i hd
        unfold pre at hd
        rw [List.isPrefixOf_iff_prefix] at hd
        have e : [46, 46, 46] = b :: s := hd.eq_of_length (by simpa using ml)
        rw [← e]
        decide
      · split at ml
        · rename_i hd hm
          have hs : s = [] := by simpa using ml
          subst hs
          simp [isMark_asc b hm]
        · simp at ml
  rw [if_neg k1] at ht
  by_cases k2 : k = 2
  · rw [if_pos k2] at ht
    have hp : printT (k, x) = x := by unfold printT; rw [if_neg (by show ¬ k = 5; omega)]
    rw [hp]
    refine source_ascii ?_
    cases x with
    | nil => rfl
    | cons b s =>
      simp only [nameB, Bool.and_eq_true] at ht
      have hb : nameU b = true := by unfold nameU; rw [show letU b = true from ht.1]; rfl
      have hs : s.all nameU = true := ht.2
      rw [List.all_cons, nameU_asc b hb, all_imp nameU_asc hs]
      rfl
  rw [if_neg k2] at ht
  by_cases k34 : k = 3 ∨ k = 4
  · rw [if_pos k34] at ht
    have hp : printT (k, x) = x := by unfold printT; rw [if_neg (by show ¬ k = 5; omega)]
    rw [hp]
    have hk : kindL x = k := by simpa using ht
    exact (numbers_yes (by rw [hk]; omega)).2.1
  rw [if_neg k34] at ht
  by_cases k5 : k = 5
  · rw [if_pos k5] at ht
    subst k5
    have hp : printT (5, x) = quoteT (codesT x) := rfl
    rw [hp]
    rw [goodB_iff] at ht
    cases hc : codes x with
    | none => rw [hc] at ht; cases ht
    | some cs =>
      obtain ⟨hb, ho⟩ := bytes_codes x.length x cs (Nat.le_refl _) hc
      have hct : codesT x = cs := by unfold codesT; rw [hc]
      rw [hct]
      unfold quoteT
      rw [show 34 :: (cs.flatMap printQ ++ [34]) = [34] ++ (cs.flatMap printQ ++ [34]) from rfl, source_append (by decide +kernel), source_append (source_flat ho)]
      decide +kernel
  · rw [if_neg k5] at ht
    cases ht
theorem source_printL : ∀ ts : List (Int × List UInt8), ts.all rightB = true → sourceB (printL ts) = true := by
  intro ts
  induction ts with
  | nil => intro _; rfl
  | cons t ts ih =>
    intro h
    simp only [List.all_cons, Bool.and_eq_true] at h
    simp only [printL]
    rw [source_append (source_printT h.1)]
    by_cases he : ts = []
    · rw [if_pos he]; rfl
    · rw [if_neg he, source_cons _ (by decide), ih h.2]
      decide
/-- What Read answers of tokens that are printed. -/
theorem print_readS {ts : List (Int × List UInt8)} (h : ts.all rightB = true) : readS (printL ts) = if 8192 < (printL ts).length then ([], 3) else (ts, 0) := by
  unfold readS
  by_cases hl : 8192 < (printL ts).length
  · rw [if_pos hl, if_pos hl]
  · rw [if_neg hl, if_neg hl, if_neg (by rw [source_printL ts h]; simp), read_print ts h]

/- What stands between tokens, of eight makes. -/
def gapText : Nat → List UInt8
  | 0 => [44] | 1 => [9] | 2 => [10] | 3 => [13, 10] | 4 => [35, 34, 115, 111, 10] | 5 => [239, 187, 191] | 6 => [32, 32] | _ => [35, 125, 13]
end Go.Proofs.YtaohniiemhahdaaGreatDoor
/- A printed type is read as it was: plain mathematics. -/
namespace Go.Proofs.YtaohniiemhahdaaGreatDoor

/-- No name goes on here. -/
def noName : List UInt8 → Bool
  | [] => true
  | b :: _ => !nameU b
/-- The tokens of a printed type. -/
def bangT (j m : Nat) : List (Int × List UInt8) := if m.testBit j then [(1, [33])] else []
def tyD (n : List UInt8) (m : Nat) : Nat → Nat → List (Int × List UInt8)
  | 0, j => (2, n) :: bangT j m
  | d + 1, j => (1, [91]) :: (tyD n m d (j + 1) ++ (1, [93]) :: bangT j m)
theorem name_ascii {n : List UInt8} (hn : nameB n = true) : n.all ascB = true := by
  have key : ∀ b : UInt8, (letB (b.toNat : Int) || digB (b.toNat : Int)) = true → ascB b = true := byte_all (by decide +kernel)
  cases n with
  | nil => rfl
  | cons b t =>
    have : (letB (b.toNat : Int) && tailB t) = true := hn
    rw [Bool.and_eq_true] at this
    rw [List.all_cons, Bool.and_eq_true]
    refine ⟨key b (by rw [this.1]; rfl), List.all_eq_true.2 fun x hx => key x (List.all_eq_true.1 this.2 x hx)⟩
/-- Which of the places from j on, d lists deep, must be there. -/
def musD (m : Nat) : Nat → Nat → Nat
  | 0, j => if m.testBit j then 1 else 0
  | d + 1, j => 2 * musD m d (j + 1) ||| (if m.testBit j then 1 else 0)
def bz (n : List UInt8) : ByteArray := ⟨n.toArray⟩
end Go.Proofs.YtaohniiemhahdaaGreatDoor
