/- The landed Type: what the reader of tokens refuses. -/
import Derived.Test.YtaohniiemhahdaaGreatDoorQb27
import Derived.Test.YtaohniiemhahdaaGreatDoorQb26
import Derived.Deep.DeepCutAuto
namespace Go.Proofs.YtaohniiemhahdaaGreatDoor
open Go.RowKit

set_option maxRecDepth 100000 in
set_option maxHeartbeats 4000000 in
theorem wholeT_err (s : ByteArray) (w : World) (hs : s.size ≤ 9000) (hw : Laid3 w) (ts : List (Int × List UInt8)) (x : Int) (hx : x ≠ 0) (hr : readS s.data.toList = (ts, x)) : Calls Tryz.prog 38 #[.string s, .func (.func 39) #[] #[]] w fun e w' => e = .returned (.tuple #[TZ, .int .i64 x]) ∧ Below w.heap.size w w' := by
  have HR := fun wx (hb : Below w.heap.size w wx) => Lib.hid (by have := read_any s wx hs (hw.below hb); rw [hr] at this; exact this)
  have B0 := Lib.hid (two_below' w (.cells #[.string ⟨#[]⟩, .int .i64 0, .int .i64 0] 39) (.cells #[.int .i64 0] 27))
  obtain ⟨y0, y1⟩ := new_two w (.cells #[.string ⟨#[]⟩, .int .i64 0, .int .i64 0] 39) (.cells #[.int .i64 0] 27)
  have Y := Lib.hid (And.intro y0 y1)
  have hsz : Hid (((w.alloc (.cells #[.string ⟨#[]⟩, .int .i64 0, .int .i64 0] 39)).alloc (.cells #[.int .i64 0] 27)).heap.size = w.heap.size + 2) := Lib.hid (by simp)
  have hx' : (x != 0) = true := by simpa using hx
  clear hr y0 y1 hx
  go_enter_defers Tryz.func38, Tryz.ntmps38
  go_wp2_with fail
  refine (HR _ B0.out).out.mono ?_
  rintro e w2 ⟨A, cap, rfl, hown, hb2⟩
  have z4 := (hb2.block w.heap.size (by have := hsz.out; omega)).trans Y.out.1
  have z5 := (hb2.block (w.heap.size + 1) (by have := hsz.out; omega)).trans Y.out.2
  obtain ⟨k0, k1, k2, f0, f1, f2⟩ := ty_cells z4
  obtain ⟨e0, e1⟩ := one_box z5
  have Z := Lib.hid (And.intro z4 z5)
  have B2 := Lib.hid (B0.out.trans (hb2.mono (by have := hsz.out; omega)))
  clear hb2 hown z4 z5
  go_wp2_with fail
  have D := Lib.hid (show (w2.setCell ⟨w.heap.size + 1, 0, none⟩ (.int .i64 x)).heap[w.heap.size]? = some (.cells #[.string ⟨#[]⟩, .int .i64 0, .int .i64 0] 39 (0, 0)) ∧ (w2.setCell ⟨w.heap.size + 1, 0, none⟩ (.int .i64 x)).heap[w.heap.size + 1]? = some (.cells #[.int .i64 x] 27 (0, 0)) from ⟨wset_other Z.out.1 (by omega), heap_setCell_same _ _ 0 _ _ _ Z.out.2⟩)
  clear k0 k1 k2 f0 f1 f2 e0 e1
  have BD := Lib.hid (B2.out.setCell (p := ⟨w.heap.size + 1, 0, none⟩) (Nat.le_succ _) (.int .i64 x))
  obtain ⟨k0, k1, k2, f0, f1, f2⟩ := ty_cells D.out.1
  obtain ⟨e0, e1⟩ := one_box D.out.2
  generalize (w2.setCell ⟨w.heap.size + 1, 0, none⟩ (.int .i64 x)) = w3 at *
  go_region
  go_wp2_with fail
  simp only [bodyPostD]
  refine leaves_two rfl (b4 := w.heap.size) (b5 := w.heap.size + 1) (x := .string ⟨#[]⟩) (y := .int .i64 0) (z := .int .i64 0) (u := .int .i64 x) ?_ ?_ rfl rfl ⟨rfl, ?_⟩
  · show ((((w3.setCell ⟨w.heap.size, 0, none⟩ (.string ⟨#[]⟩)).setCell ⟨w.heap.size, 1, none⟩ (.int .i64 0)).setCell ⟨w.heap.size, 2, none⟩ (.int .i64 0)).setCell ⟨w.heap.size + 1, 0, none⟩ (.int .i64 x)).heap[w.heap.size]? = _
    exact wset_other (ty_set D.out.1) (by omega)
  · show ((((w3.setCell ⟨w.heap.size, 0, none⟩ (.string ⟨#[]⟩)).setCell ⟨w.heap.size, 1, none⟩ (.int .i64 0)).setCell ⟨w.heap.size, 2, none⟩ (.int .i64 0)).setCell ⟨w.heap.size + 1, 0, none⟩ (.int .i64 x)).heap[w.heap.size + 1]? = _
    exact heap_setCell_same _ _ 0 _ _ _ (wset_other (wset_other (wset_other D.out.2 (by omega)) (by omega)) (by omega))
  · exact Below.drew ((((BD.out.setCell (Nat.le_refl _) _).setCell (Nat.le_refl _) _).setCell (Nat.le_refl _) _).setCell (Nat.le_succ _) _)
/-- What Type answers, and the error. -/
def typeA (l : List UInt8) : Value × Int :=
  if (readS l).2 ≠ 0 then (TZ, (readS l).2) else
    match typeR 4 (tokB (readS l).1) with
    | .error x => (TZ, x)
    | .ok ((n, k, m), r) => if r = [] then (.agg #[.string n, .int .i64 (k : Int), .int .i64 (m : Int)], 0) else (TZ, 2)
theorem readS_names {s : ByteArray} (hs : s.size ≤ 9000) : NamesT (tokB (readS s.data.toList).1) := by
  unfold readS
  split
  · intro t ht; cases ht
  · split
    · intro t ht; cases ht
    · cases h : readL s.data.toList with
      | none => intro t ht; cases ht
      | some ts => exact read_names hs h
theorem readF_len : ∀ (n : Nat) (l : List UInt8) ts, readF n l = some ts → ts.length ≤ n
  | 0, _, _, h => by cases h
  | n + 1, l, ts, h => by
    rw [readF] at h
    split at h
    · exact Nat.le_succ_of_le (readF_len n _ ts h)
    · split at h
      · cases h; simp
      · cases hk : tokL l with
        | none => rw [hk] at h; cases h
        | some p =>
          rw [hk] at h
          cases hr : readF n (l.drop p.2) with
          | none => simp only [hr] at h; cases h
          | some us =>
            simp only [hr] at h
            have h := Option.some.inj h
            subst h
            have := readF_len n _ us hr
            simp; omega
theorem readS_len {s : ByteArray} (hs : s.size ≤ 9000) : (readS s.data.toList).1.length ≤ 9001 := by
  have h3 : s.data.toList.length = s.size := Array.length_toList
  unfold readS
  split
  · simp
  · split
    · simp
    · cases h : readL s.data.toList with
      | none => simp
      | some ts => have := readF_len _ _ ts h; show ts.length ≤ _; omega
theorem wholeT_any (s : ByteArray) (w : World) (hs : s.size ≤ 9000) (hw : Laid3 w) : Calls Tryz.prog 38 #[.string s, .func (.func 39) #[] #[]] w fun e w' => e = .returned (.tuple #[(typeA s.data.toList).1, .int .i64 (typeA s.data.toList).2]) ∧ Below w.heap.size w w' := by
  have hN := readS_names hs
  have hl := readS_len hs
  unfold typeA
  obtain ⟨⟨ts, x⟩, hr⟩ : ∃ p, readS s.data.toList = p := ⟨_, rfl⟩
  rw [hr] at hN hl ⊢
  by_cases hx : x = 0
  · subst hx
    rw [if_neg (by simp)]
    cases ht : typeR 4 (tokB ts) with
    | error y => exact wholeT_no s w hs hw ts hr (by have : ts.length ≤ 9001 := hl; omega) hN y ht
    | ok p =>
      obtain ⟨⟨n, k, m⟩, r⟩ := p
      cases r with
      | nil => exact wholeT_yes s w hs hw ts hr (by have : ts.length ≤ 9001 := hl; omega) hN n k m ht
      | cons t ts2 => exact wholeT_more s w hs hw ts hr (by have : ts.length ≤ 9001 := hl; omega) hN _ t ts2 ht
  · rw [if_pos hx]
    exact wholeT_err s w hs hw ts x hx hr
set_option maxRecDepth 100000 in
theorem ptype_any (s : ByteArray) (w : World) (hs : s.size ≤ 9000) (hw : Laid3 w) : Calls Tryz.prog 17 #[.string s] w fun e w' => e = .returned (.tuple #[(typeA s.data.toList).1, .int .i64 (typeA s.data.toList).2]) ∧ Below w.heap.size w w' := by
  have HW := fun wx (hb : Below w.heap.size w wx) => Lib.hid (wholeT_any s wx hs (hw.below hb))
  have hf : ∃ n k m, (typeA s.data.toList).1 = .agg #[.string n, .int .i64 k, .int .i64 m] := by
    unfold typeA
    split
    · exact ⟨_, _, _, rfl⟩
    · split
      · exact ⟨_, _, _, rfl⟩
      · split
        · exact ⟨_, _, _, rfl⟩
        · exact ⟨_, _, _, rfl⟩
  obtain ⟨n, k, m, hf⟩ := hf
  rw [hf] at HW ⊢
  generalize (typeA s.data.toList).2 = x at *
  have B0 := Lib.hid (below_new' w (.cells #[.string ⟨#[]⟩, .int .i64 0, .int .i64 0] 39))
  have Y := Lib.hid (heap_alloc_last w (.cells #[.string ⟨#[]⟩, .int .i64 0, .int .i64 0] 39))
  clear hf
  go_enter Tryz.func17, Tryz.ntmps17
  go_wp2_with fail
  refine (HW _ B0.out).out.mono ?_
  rintro e w2 ⟨rfl, hb2⟩
  have Z := Lib.hid ((hb2.block w.heap.size (by simp)).trans Y.out)
  have B2 := Lib.hid (B0.out.trans (hb2.mono B0.out.size))
  obtain ⟨k0, k1, k2, f0, f1, f2⟩ := ty_cells Z.out
  clear hb2
  go_wp2_with fail
  exact ret_ty rfl rfl rfl (ty_set Z.out) ⟨rfl, ((B2.out.setCell (Nat.le_refl _) _).setCell (Nat.le_refl _) _).setCell (Nat.le_refl _) _⟩
end Go.Proofs.YtaohniiemhahdaaGreatDoor
/- The walk of Number; worlds that keep what the package needs; the law's own examples. -/
namespace Go.Proofs.YtaohniiemhahdaaGreatDoor
open Go.RowKit

/-- A slice of tokens that reads as ts. -/
def ToksAt (w : World) (A : Option Addr) (cap : Nat) (ts : List (Int × List UInt8)) : Prop := (∀ (j : Nat) v, (tokVals ts)[j]? = some v → ∃ g, A = some ⟨g, 0, none⟩ ∧ g < w.heap.size ∧ w.cell? ⟨g, j, none⟩ = some v) ∧ ts.length ≤ cap
theorem ToksAt.on {w w' : World} {A : Option Addr} {cap : Nat} {ts : List (Int × List UInt8)} (h : ToksAt w A cap ts) (hb : Below w.heap.size w w') : ToksAt w' A cap ts :=
  ⟨fun j v hv => by
    obtain ⟨g, hA, hg, hc⟩ := h.1 j v hv
    exact ⟨g, hA, by have := hb.size; omega, (hb.cell (p := ⟨g, j, none⟩) hg).trans hc⟩, h.2⟩
theorem ToksAt.one {w : World} {A : Option Addr} {cap : Nat} {k : Int} {x : List UInt8} (h : ToksAt w A cap [(k, x)]) : ∃ g, A = some ⟨g, 0, none⟩ ∧ g < w.heap.size ∧ w.cell? ⟨g, 0, none⟩ = some (.int .i64 k) ∧ w.cell? ⟨g, 1, none⟩ = some (.string ⟨x.toArray⟩) := by
  obtain ⟨g, hA, hg, h0⟩ := h.1 0 _ rfl
  obtain ⟨g', hA', _, h1⟩ := h.1 1 _ rfl
  subst hA
  injection hA' with e
  injection e with e1
  subst e1
  exact ⟨g, rfl, hg, h0, h1⟩

/-- What the laws keep. -/
def K3 (w wx : World) : Prop := Laid3 wx ∧ Below w.heap.size w wx
theorem K3.start {w : World} (h : Laid3 w) : K3 w w := ⟨h, Below.refl _ _⟩
theorem K3.next {w wx wy : World} (h : K3 w wx) (hb : Below wx.heap.size wx wy) : K3 w wy := ⟨h.1.below hb, h.2.trans (hb.mono h.2.size)⟩
theorem K3.alloc {w wx : World} (h : K3 w wx) (o : Obj) : K3 w (wx.alloc o) := h.next ((Below.refl _ _).alloc (Nat.le_refl _) o)
def exToks : List (Int × List UInt8) := [(1, [123]), (2, [97]), (1, [40]), (2, [98]), (1, [58]), (3, [45, 49]), (1, [41]), (1, [125])]
end Go.Proofs.YtaohniiemhahdaaGreatDoor
/- The walk of the law TokenNumbers. -/
namespace Go.Proofs.YtaohniiemhahdaaGreatDoor
open Go.RowKit

namespace LNumbers

end LNumbers
end Go.Proofs.YtaohniiemhahdaaGreatDoor
/- The walk of the law TokenUnits. -/
namespace Go.Proofs.YtaohniiemhahdaaGreatDoor
open Go.RowKit

def hexD (x : Int) : UInt8 := if x < 10 then (48 + x).toNat.toUInt8 else (87 + x).toNat.toUInt8
def hexText (u : Int) : List UInt8 := [92, 117, hexD (u / 4096 % 16), hexD (u / 256 % 16), hexD (u / 16 % 16), hexD (u % 16)]
abbrev digC : ByteArray := ⟨#[48, 49, 50, 51, 52, 53, 54, 55, 56, 57, 97, 98, 99, 100, 101, 102, 65, 66, 67, 68, 69, 70]⟩
namespace LUnits

end LUnits
end Go.Proofs.YtaohniiemhahdaaGreatDoor
/- Plain facts on tokens that are printed: they read as they were. -/
namespace Go.Proofs.YtaohniiemhahdaaGreatDoor

/-- How a code point is printed within a quote. -/
def printQ (c : Int) : List UInt8 :=
  if c = 34 then [92, 34] else if c = 92 then [92, 92] else if c = 10 then [92, 110] else if c < 32 ∨ 65535 < c then (unitOf c).flatMap hexText else Lib.encodeRune c
def quoteT (cs : List Int) : List UInt8 := 34 :: (cs.flatMap printQ ++ [34])
def codesT (x : List UInt8) : List Int := match codes x with | some cs => cs | none => []
def printT (t : Int × List UInt8) : List UInt8 := if t.1 = 5 then quoteT (codesT t.2) else t.2
def rightB (t : Int × List UInt8) : Bool :=
  if t.1 = 1 then decide (0 < markN t.2 ∧ markN t.2 = t.2.length) else if t.1 = 2 then nameB t.2 else if t.1 = 3 ∨ t.1 = 4 then decide (kindL t.2 = t.1) else if t.1 = 5 then goodB t.2 else false
def endB (r : List UInt8) : Prop := r = [] ∨ ∃ r', r = 32 :: r'

/- The bytes of a code point. -/
theorem toNat_byte {z : Int} (h0 : 0 ≤ z) (h1 : z < 256) : ((z.toNat.toUInt8).toNat : Int) = z := toNat_ofInt h0 h1
theorem enc_high {c : Int} (h : 128 ≤ c) : ∀ b ∈ Lib.encodeRune c, 128 ≤ b.toNat := by
  intro b hb
  unfold Lib.encodeRune at hb
  obtain ⟨z, hz, rfl⟩ := List.mem_map.1 hb
  have hb := Lib.encodeRuneZ_byte c z hz
  have hz2 : 128 ≤ z := by
    unfold Lib.encodeRuneZ at hz
    split at hz
    · omega
    · split at hz
      · simp at hz; omega
      · split at hz
        · simp at hz; omega
        · split at hz
          · simp at hz; omega
          · simp at hz; omega
  have := toNat_byte hb.1 hb.2
  omega
theorem enc_low {c : Int} (h0 : 0 ≤ c) (h1 : c < 128) : Lib.encodeRune c = [c.toNat.toUInt8] := by
  unfold Lib.encodeRune
  rw [Lib.encodeRuneZ_one h0 (by omega)]
  rfl
/-- A byte that stands for itself within a quote. -/
def selfB (b : UInt8) : Bool := !(b == 34) && !(b == 10) && !(b == 13) && !(b == 92)
end Go.Proofs.YtaohniiemhahdaaGreatDoor

/- Plain facts: each token that may be, printed, reads as itself; so do all of them. -/
namespace Go.Proofs.YtaohniiemhahdaaGreatDoor

/-- The text of tokens. -/
def printL : List (Int × List UInt8) → List UInt8
  | [] => []
  | t :: ts => printT t ++ (if ts = [] then [] else 32 :: printL ts)
end Go.Proofs.YtaohniiemhahdaaGreatDoor

/- Plain facts: what is printed is a source text; what may stand between tokens. -/
namespace Go.Proofs.YtaohniiemhahdaaGreatDoor

/- What stands between tokens, of eight makes. -/
def gapText : Nat → List UInt8
  | 0 => [44] | 1 => [9] | 2 => [10] | 3 => [13, 10] | 4 => [35, 34, 115, 111, 10] | 5 => [239, 187, 191] | 6 => [32, 32] | _ => [35, 125, 13]
end Go.Proofs.YtaohniiemhahdaaGreatDoor
/- A printed type is read as it was: plain mathematics. -/
namespace Go.Proofs.YtaohniiemhahdaaGreatDoor

/-- No name goes on here. -/
def noName : List UInt8 → Bool
  | [] => true
  | b :: _ => !nameU b
/-- The tokens of a printed type. -/
def bangT (j m : Nat) : List (Int × List UInt8) := if m.testBit j then [(1, [33])] else []
def tyD (n : List UInt8) (m : Nat) : Nat → Nat → List (Int × List UInt8)
  | 0, j => (2, n) :: bangT j m
  | d + 1, j => (1, [91]) :: (tyD n m d (j + 1) ++ (1, [93]) :: bangT j m)
theorem name_ascii {n : List UInt8} (hn : nameB n = true) : n.all ascB = true := by
  have key : ∀ b : UInt8, (letB (b.toNat : Int) || digB (b.toNat : Int)) = true → ascB b = true := byte_all (by decide +kernel)
  cases n with
  | nil => rfl
  | cons b t =>
    have : (letB (b.toNat : Int) && tailB t) = true := hn
    rw [Bool.and_eq_true] at this
    rw [List.all_cons, Bool.and_eq_true]
    refine ⟨key b (by rw [this.1]; rfl), List.all_eq_true.2 fun x hx => key x (List.all_eq_true.1 this.2 x hx)⟩
/-- Which of the places from j on, d lists deep, must be there. -/
def musD (m : Nat) : Nat → Nat → Nat
  | 0, j => if m.testBit j then 1 else 0
  | d + 1, j => 2 * musD m d (j + 1) ||| (if m.testBit j then 1 else 0)
def bz (n : List UInt8) : ByteArray := ⟨n.toArray⟩
end Go.Proofs.YtaohniiemhahdaaGreatDoor
