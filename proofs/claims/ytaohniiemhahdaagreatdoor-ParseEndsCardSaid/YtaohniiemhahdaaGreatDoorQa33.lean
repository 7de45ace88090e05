/- The landed Type: what the reader of tokens refuses. -/
import Derived.Test.YtaohniiemhahdaaGreatDoorQa23
import Derived.Test.YtaohniiemhahdaaGreatDoorQa22
import Derived.Deep.DeepCutAuto
namespace Go.Proofs.YtaohniiemhahdaaGreatDoor
open Go.RowKit

set_option maxRecDepth 100000 in
set_option maxHeartbeats 4000000 in
theorem wholeT_err (s : ByteArray) (w : World) (hs : s.size ≤ 9000) (hw : Laid3 w) (ts : List (Int × List UInt8)) (x : Int) (hx : x ≠ 0) (hr : readS s.data.toList = (ts, x)) : Calls Tryz.prog 38 #[.string s, .func (.func 39) #[] #[]] w fun e w' => e = .returned (.tuple #[TZ, .int .i64 x]) ∧ Below w.heap.size w w' := by
  have HR := fun wx (hb : Below w.heap.size w wx) => Lib.hid (by have := read_any s wx hs (hw.below hb); rw [hr] at this; exact this)
  have B0 := Lib.hid (two_below' w (.cells #[.string ⟨#[]⟩, .int .i64 0, .int .i64 0] 39) (.cells #[.int .i64 0] 27))
  obtain ⟨y0, y1⟩ := new_two w (.cells #[.string ⟨#[]⟩, .int .i64 0, .int .i64 0] 39) (.cells #[.int .i64 0] 27)
  have Y := Lib.hid (And.intro y0 y1)
  have hsz : Hid (((w.alloc (.cells #[.string ⟨#[]⟩, .int .i64 0, .int .i64 0] 39)).alloc (.cells #[.int .i64 0] 27)).heap.size = w.heap.size + 2) := Lib.hid (by simp)
  have hx' : (x != 0) = true := by simpa using hx
  clear hr y0 y1 hx
  go_enter_defers Tryz.func38, Tryz.ntmps38
  go_wp2_with fail
  refine (HR _ B0.out).out.mono ?_
  rintro e w2 ⟨A, cap, rfl, hown, hb2⟩
  have z4 := (hb2.block w.heap.size (by have := hsz.out; omega)).trans Y.out.1
  have z5 := (hb2.block (w.heap.size + 1) (by have := hsz.out; omega)).trans Y.out.2
  obtain ⟨k0, k1, k2, f0, f1, f2⟩ := ty_cells z4
  obtain ⟨e0, e1⟩ := one_box z5
  have Z := Lib.hid (And.intro z4 z5)
  have B2 := Lib.hid (B0.out.trans (hb2.mono (by have := hsz.out; omega)))
  clear hb2 hown z4 z5
  go_wp2_with fail
  have D := Lib.hid (show (w2.setCell ⟨w.heap.size + 1, 0, none⟩ (.int .i64 x)).heap[w.heap.size]? = some (.cells #[.string ⟨#[]⟩, .int .i64 0, .int .i64 0] 39 (0, 0)) ∧ (w2.setCell ⟨w.heap.size + 1, 0, none⟩ (.int .i64 x)).heap[w.heap.size + 1]? = some (.cells #[.int .i64 x] 27 (0, 0)) from ⟨wset_other Z.out.1 (by omega), heap_setCell_same _ _ 0 _ _ _ Z.out.2⟩)
  clear k0 k1 k2 f0 f1 f2 e0 e1
  have BD := Lib.hid (B2.out.setCell (p := ⟨w.heap.size + 1, 0, none⟩) (Nat.le_succ _) (.int .i64 x))
  obtain ⟨k0, k1, k2, f0, f1, f2⟩ := ty_cells D.out.1
  obtain ⟨e0, e1⟩ := one_box D.out.2
  generalize (w2.setCell ⟨w.heap.size + 1, 0, none⟩ (.int .i64 x)) = w3 at *
  go_region
  go_wp2_with fail
  simp only [bodyPostD]
  refine leaves_two rfl (b4 := w.heap.size) (b5 := w.heap.size + 1) (x := .string ⟨#[]⟩) (y := .int .i64 0) (z := .int .i64 0) (u := .int .i64 x) ?_ ?_ rfl rfl ⟨rfl, ?_⟩
  · show ((((w3.setCell ⟨w.heap.size, 0, none⟩ (.string ⟨#[]⟩)).setCell ⟨w.heap.size, 1, none⟩ (.int .i64 0)).setCell ⟨w.heap.size, 2, none⟩ (.int .i64 0)).setCell ⟨w.heap.size + 1, 0, none⟩ (.int .i64 x)).heap[w.heap.size]? = _
    exact wset_other (ty_set D.out.1) (by omega)
  · show ((((w3.setCell ⟨w.heap.size, 0, none⟩ (.string ⟨#[]⟩)).setCell ⟨w.heap.size, 1, none⟩ (.int .i64 0)).setCell ⟨w.heap.size, 2, none⟩ (.int .i64 0)).setCell ⟨w.heap.size + 1, 0, none⟩ (.int .i64 x)).heap[w.heap.size + 1]? = _
    exact heap_setCell_same _ _ 0 _ _ _ (wset_other (wset_other (wset_other D.out.2 (by omega)) (by omega)) (by omega))
  · exact Below.drew ((((BD.out.setCell (Nat.le_refl _) _).setCell (Nat.le_refl _) _).setCell (Nat.le_refl _) _).setCell (Nat.le_succ _) _)
/-- What Type answers, and the error. -/
def typeA (l : List UInt8) : Value × Int :=
  if (readS l).2 ≠ 0 then (TZ, (readS l).2) else
    match typeR 4 (tokB (readS l).1) with
    | .error x => (TZ, x)
    | .ok ((n, k, m), r) => if r = [] then (.agg #[.string n, .int .i64 (k : Int), .int .i64 (m : Int)], 0) else (TZ, 2)
theorem readS_names {s : ByteArray} (hs : s.size ≤ 9000) : NamesT (tokB (readS s.data.toList).1) := by
  unfold readS
  split
  · intro t ht; cases ht
  · split
    · intro t ht; cases ht
    · cases h : readL s.data.toList with
      | none => intro t ht; cases ht
      | some ts => exact read_names hs h
theorem readF_len : ∀ (n : Nat) (l : List UInt8) ts, readF n l = some ts → ts.length ≤ n
  | 0, _, _, h => by cases h
  | n + 1, l, ts, h => by
    rw [readF] at h
    split at h
    · exact Nat.le_succ_of_le (readF_len n _ ts h)
    · split at h
      · cases h; simp
      · cases hk : tokL l with
        | none => rw [hk] at h; cases h
        | some p =>
          rw [hk] at h
          cases hr : readF n (l.drop p.2) with
          | none => simp only [hr] at h; cases h
          | some us =>
            simp only [hr] at h
            have h := Option.some.inj h
            subst h
            have := readF_len n _ us hr
            simp; omega
theorem readS_len {s : ByteArray} (hs : s.size ≤ 9000) : (readS s.data.toList).1.length ≤ 9001 := by
  have h3 : s.data.toList.length = s.size := Array.length_toList
  unfold readS
  split
  · simp
  · split
    · simp
    · cases h : readL s.data.toList with
      | none => simp
      | some ts => have := readF_len _ _ ts h; show ts.length ≤ _; omega
theorem wholeT_any (s : ByteArray) (w : World) (hs : s.size ≤ 9000) (hw : Laid3 w) : Calls Tryz.prog 38 #[.string s, .func (.func 39) #[] #[]] w fun e w' => e = .returned (.tuple #[(typeA s.data.toList).1, .int .i64 (typeA s.data.toList).2]) ∧ Below w.heap.size w w' := by
  have hN := readS_names hs
  have hl := readS_len hs
  unfold typeA
  obtain ⟨⟨ts, x⟩, hr⟩ : ∃ p, readS s.data.toList = p := ⟨_, rfl⟩
  rw [hr] at hN hl ⊢
  by_cases hx : x = 0
  · subst hx
    rw [if_neg (by simp)]
    cases ht : typeR 4 (tokB ts) with
    | error y => exact wholeT_no s w hs hw ts hr (by have : ts.length ≤ 9001 := hl; omega) hN y ht
    | ok p =>
      obtain ⟨⟨n, k, m⟩, r⟩ := p
      cases r with
      | nil => exact wholeT_yes s w hs hw ts hr (by have : ts.length ≤ 9001 := hl; omega) hN n k m ht
      | cons t ts2 => exact wholeT_more s w hs hw ts hr (by have : ts.length ≤ 9001 := hl; omega) hN _ t ts2 ht
  · rw [if_pos hx]
    exact wholeT_err s w hs hw ts x hx hr
set_option maxRecDepth 100000 in
theorem ptype_any (s : ByteArray) (w : World) (hs : s.size ≤ 9000) (hw : Laid3 w) : Calls Tryz.prog 17 #[.string s] w fun e w' => e = .returned (.tuple #[(typeA s.data.toList).1, .int .i64 (typeA s.data.toList).2]) ∧ Below w.heap.size w w' := by
  have HW := fun wx (hb : Below w.heap.size w wx) => Lib.hid (wholeT_any s wx hs (hw.below hb))
  have hf : ∃ n k m, (typeA s.data.toList).1 = .agg #[.string n, .int .i64 k, .int .i64 m] := by
    unfold typeA
    split
    · exact ⟨_, _, _, rfl⟩
    · split
      · exact ⟨_, _, _, rfl⟩
      · split
        · exact ⟨_, _, _, rfl⟩
        · exact ⟨_, _, _, rfl⟩
  obtain ⟨n, k, m, hf⟩ := hf
  rw [hf] at HW ⊢
  generalize (typeA s.data.toList).2 = x at *
  have B0 := Lib.hid (below_new' w (.cells #[.string ⟨#[]⟩, .int .i64 0, .int .i64 0] 39))
  have Y := Lib.hid (heap_alloc_last w (.cells #[.string ⟨#[]⟩, .int .i64 0, .int .i64 0] 39))
  clear hf
  go_enter Tryz.func17, Tryz.ntmps17
  go_wp2_with fail
  refine (HW _ B0.out).out.mono ?_
  rintro e w2 ⟨rfl, hb2⟩
  have Z := Lib.hid ((hb2.block w.heap.size (by simp)).trans Y.out)
  have B2 := Lib.hid (B0.out.trans (hb2.mono B0.out.size))
  obtain ⟨k0, k1, k2, f0, f1, f2⟩ := ty_cells Z.out
  clear hb2
  go_wp2_with fail
  exact ret_ty rfl rfl rfl (ty_set Z.out) ⟨rfl, ((B2.out.setCell (Nat.le_refl _) _).setCell (Nat.le_refl _) _).setCell (Nat.le_refl _) _⟩
end Go.Proofs.YtaohniiemhahdaaGreatDoor
/- The walk of Number; worlds that keep what the package needs; the law's own examples. -/
namespace Go.Proofs.YtaohniiemhahdaaGreatDoor
open Go.RowKit

theorem number_zero {l : List UInt8} (h : (numberL l).1 = 0) : (numberL l).2 = 0 := by
  unfold numberL at *
  by_cases h0 : (numeralL l).1 = 0
  · rw [if_pos h0]
  · rw [if_neg h0] at h ⊢
    cases hb : behindB (l.drop (numeralL l).1)
    · rw [hb] at h; exact absurd h h0
    · rfl

set_option maxRecDepth 100000 in
theorem numberf_any (s : ByteArray) (w : World) (hs : s.size ≤ 9000) : Calls Tryz.prog 112 #[.string s] w fun e w' => e = .returned (.int .i64 (kindL s.data.toList)) ∧ Below w.heap.size w w' := by
  have hN := number_any s w hs
  have hk : kindL s.data.toList = if (numberL s.data.toList).1 < s.size then 0 else (numberL s.data.toList).2 := by unfold kindL; rw [len_data]
  have hz := fun h => number_zero (l := s.data.toList) h
  obtain ⟨n, hn⟩ : ∃ n, (numberL s.data.toList).1 = n := ⟨_, rfl⟩
  obtain ⟨k, hkk⟩ : ∃ k, (numberL s.data.toList).2 = k := ⟨_, rfl⟩
  rw [hn, hkk] at hN hk hz
  have hT : ∃ x : ByteArray, tokS k (s.data.toList.take n) n = .tuple #[.agg #[.int .i64 k, .string x], .int .i64 n] := by
    by_cases h0 : n = 0
    · rw [hz h0, h0]; exact ⟨_, rfl⟩
    · exact ⟨_, tokS_yes h0⟩
  obtain ⟨x, hx⟩ := hT
  rw [hx] at hN
  have HN := Lib.hid hN
  clear hN hx hz hn hkk
  by_cases hlt : n < s.size
  · have hlt' : (n : Int) < (s.size : Int) := by omega
    have hr : Hid (kindL s.data.toList = 0) := Lib.hid (by rw [hk, if_pos hlt])
    clear hk
    go_enter Tryz.func112, Tryz.ntmps112
    go_wp2_with fail
    refine HN.out.mono ?_
    rintro e w1 ⟨rfl, hb⟩
    have HB := Lib.hid hb
    have hbs := hb.size
    clear hb
    go_wp2_with fail
    go_ret
    exact ⟨ret_i (by rw [hr.out]), HB.out.alloc hbs _⟩
  · have hlt' : ¬ (n : Int) < (s.size : Int) := by omega
    have hr : Hid (kindL s.data.toList = k) := Lib.hid (by rw [hk, if_neg hlt])
    clear hk
    go_enter Tryz.func112, Tryz.ntmps112
    go_wp2_with fail
    refine HN.out.mono ?_
    rintro e w1 ⟨rfl, hb⟩
    have HB := Lib.hid hb
    have hbs := hb.size
    clear hb
    go_wp2_with fail
    go_ret
    exact ⟨ret_i (by rw [hr.out]), HB.out.alloc hbs _⟩

/-- A slice of tokens that reads as ts. -/
def ToksAt (w : World) (A : Option Addr) (cap : Nat) (ts : List (Int × List UInt8)) : Prop := (∀ (j : Nat) v, (tokVals ts)[j]? = some v → ∃ g, A = some ⟨g, 0, none⟩ ∧ g < w.heap.size ∧ w.cell? ⟨g, j, none⟩ = some v) ∧ ts.length ≤ cap
theorem ToksAt.on {w w' : World} {A : Option Addr} {cap : Nat} {ts : List (Int × List UInt8)} (h : ToksAt w A cap ts) (hb : Below w.heap.size w w') : ToksAt w' A cap ts :=
  ⟨fun j v hv => by
    obtain ⟨g, hA, hg, hc⟩ := h.1 j v hv
    exact ⟨g, hA, by have := hb.size; omega, (hb.cell (p := ⟨g, j, none⟩) hg).trans hc⟩, h.2⟩
theorem ToksAt.one {w : World} {A : Option Addr} {cap : Nat} {k : Int} {x : List UInt8} (h : ToksAt w A cap [(k, x)]) : ∃ g, A = some ⟨g, 0, none⟩ ∧ g < w.heap.size ∧ w.cell? ⟨g, 0, none⟩ = some (.int .i64 k) ∧ w.cell? ⟨g, 1, none⟩ = some (.string ⟨x.toArray⟩) := by
  obtain ⟨g, hA, hg, h0⟩ := h.1 0 _ rfl
  obtain ⟨g', hA', _, h1⟩ := h.1 1 _ rfl
  subst hA
  injection hA' with e
  injection e with e1
  subst e1
  exact ⟨g, rfl, hg, h0, h1⟩

/-- What the laws keep. -/
def K3 (w wx : World) : Prop := Laid3 wx ∧ Below w.heap.size w wx
theorem K3.start {w : World} (h : Laid3 w) : K3 w w := ⟨h, Below.refl _ _⟩
theorem K3.next {w wx wy : World} (h : K3 w wx) (hb : Below wx.heap.size wx wy) : K3 w wy := ⟨h.1.below hb, h.2.trans (hb.mono h.2.size)⟩
theorem K3.alloc {w wx : World} (h : K3 w wx) (o : Obj) : K3 w (wx.alloc o) := h.next ((Below.refl _ _).alloc (Nat.le_refl _) o)
def exToks : List (Int × List UInt8) := [(1, [123]), (2, [97]), (1, [40]), (2, [98]), (1, [58]), (3, [45, 49]), (1, [41]), (1, [125])]
end Go.Proofs.YtaohniiemhahdaaGreatDoor
/- The walk of the law TokenNumbers. -/
namespace Go.Proofs.YtaohniiemhahdaaGreatDoor
open Go.RowKit

namespace LNumbers

end LNumbers
end Go.Proofs.YtaohniiemhahdaaGreatDoor
/- The walk of the law TokenUnits. -/
namespace Go.Proofs.YtaohniiemhahdaaGreatDoor
open Go.RowKit

def hexD (x : Int) : UInt8 := if x < 10 then (48 + x).toNat.toUInt8 else (87 + x).toNat.toUInt8
def hexText (u : Int) : List UInt8 := [92, 117, hexD (u / 4096 % 16), hexD (u / 256 % 16), hexD (u / 16 % 16), hexD (u % 16)]
theorem hexD_all : ∀ x : Fin 16, hexB (hexD (x.val : Int)) = true ∧ hexI (hexD (x.val : Int)) = (x.val : Int) ∧ ascB (hexD (x.val : Int)) = true := by decide +kernel
theorem hexD_ok {x : Int} (h0 : 0 ≤ x) (h1 : x < 16) : hexB (hexD x) = true ∧ hexI (hexD x) = x ∧ ascB (hexD x) = true := by
  obtain ⟨n, rfl⟩ := Int.eq_ofNat_of_zero_le h0
  exact hexD_all ⟨n, by omega⟩
theorem unit_text {u : Int} (h0 : 0 ≤ u) (h1 : u ≤ 65535) (r : List UInt8) : unitAt (hexText u ++ r) = some u := by
  obtain ⟨a1, a2, _⟩ := hexD_ok (x := u / 4096 % 16) (by omega) (by omega)
  obtain ⟨b1, b2, _⟩ := hexD_ok (x := u / 256 % 16) (by omega) (by omega)
  obtain ⟨c1, c2, _⟩ := hexD_ok (x := u / 16 % 16) (by omega) (by omega)
  obtain ⟨d1, d2, _⟩ := hexD_ok (x := u % 16) (by omega) (by omega)
  show unitAt (92 :: 117 :: _ :: _ :: _ :: _ :: r) = _
  rw [unit_pu]
  simp only [pu, a1, b1, c1, d1, a2, b2, c2, d2, if_true, Option.some.injEq]
  omega
theorem tok_quote (t : List UInt8) : gapL (34 :: t) = 0 ∧ tokL (34 :: t) = (quoteL (34 :: t)).map fun q => ((5, q.1), q.2) := by
  have g : gapL (34 :: t) = 0 := by simp [gapL, isGap, pre_ne (show (34 : UInt8) ≠ 239 by decide)]
  have m : markN (34 :: t) = 0 := by simp [markN, pre_ne (show (34 : UInt8) ≠ 46 by decide), show isMark 34 = false by decide]
  have w : wordN (34 :: t) = 0 := by simp [wordN, show letU 34 = false by decide]
  have n : (numberL (34 :: t)).1 = 0 := by
    by_cases h : (numberL (34 :: t)).1 = 0
    · exact h
    · obtain ⟨_, _, h0⟩ := number_cases h
      obtain ⟨b, t', e, hb⟩ := numeralL_head h0
      cases e
      exact absurd hb (by decide)
  refine ⟨g, ?_⟩
  unfold tokL
  rw [if_neg (by rw [m]; simp), if_neg (by rw [w]; simp), if_neg (by rw [n]; simp)]
theorem text_len : ∀ zs : List Int, (zs.flatMap hexText).length = 6 * zs.length := by
  intro zs
  induction zs with
  | nil => rfl
  | cons z zs ih => rw [List.flatMap_cons, List.length_append, ih, List.length_cons]; show 6 + _ = _; omega
theorem text_asc {zs : List Int} (h : ∀ z ∈ zs, 0 ≤ z ∧ z ≤ 65535) : (zs.flatMap hexText).all ascB = true := by
  rw [List.all_flatMap, List.all_eq_true]
  intro z hz
  have hz := h z hz
  have a := (hexD_ok (x := z / 4096 % 16) (by omega) (by omega)).2.2
  have b := (hexD_ok (x := z / 256 % 16) (by omega) (by omega)).2.2
  have c := (hexD_ok (x := z / 16 % 16) (by omega) (by omega)).2.2
  have d := (hexD_ok (x := z % 16) (by omega) (by omega)).2.2
  simp only [hexText, List.all_cons, List.all_nil, a, b, c, d]
  decide
abbrev digC : ByteArray := ⟨#[48, 49, 50, 51, 52, 53, 54, 55, 56, 57, 97, 98, 99, 100, 101, 102, 65, 66, 67, 68, 69, 70]⟩
theorem and_low4 {x : Int} (h0 : 0 ≤ x) (h1 : x < 9223372036854775808) : bits .and .i64 x 15 = x % 16 := by
  obtain ⟨a, rfl⟩ := Int.eq_ofNat_of_zero_le h0
  show IntKind.i64.wrap ((BitVec.ofInt 64 (a : Int) &&& BitVec.ofInt 64 ((15 : Nat) : Int)).toNat : Int) = _
  rw [BitVec.toNat_and, ofInt_i64 a (by omega), ofInt_i64 15 (by omega), show (15 : Nat) = 2 ^ 4 - 1 from rfl, Nat.and_two_pow_sub_one_eq_mod, IntKind.wrap_i64]
  omega
theorem take_text {zs : List Int} {i : Nat} {z : Int} (h : zs[i]? = some z) : (zs.take (i + 1)).flatMap hexText = (zs.take i).flatMap hexText ++ hexText z := by
  rw [List.take_add_one, h]
  simp [List.flatMap_append]
namespace LUnits

end LUnits
end Go.Proofs.YtaohniiemhahdaaGreatDoor
