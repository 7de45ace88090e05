/- Texts in a row; what slices.Index and slices.Contains tell of them, and of numbers. -/
import Derived.Test.YtmamgaifpjgfkaaSdM
import Derived.Test.YtmamgaifpjgfkaaPaSame
import Derived.Test.YtmamgaifpjgfkaaStrs
namespace Go.Proofs.Ytmamgaifpjgfkaa
open Go.RowKit

theorem str_row {w : World} {B : Nat} {l : List ByteArray} {A : Option Addr} (h : RowT w (fun b => b < B) (rowOf encStr l) A) : Blk.StrsAt w B A l.length l :=
  ⟨rfl, fun j x hx => by
    obtain ⟨b, o, cs, e, hb, hc, h1⟩ := rowOf_at 1 (fun _ => rfl) h hx
    simp only [encStr, TS, TP] at h1
    obtain ⟨c0, _, rfl, ⟨rfl, _⟩, rfl⟩ := h1
    have := hc 0 _ rfl
    rw [Nat.mul_one, Nat.add_zero] at this
    exact ⟨b, o, e, hb, this⟩⟩
/-- No text is longer than may be. -/
def StrB (l : List ByteArray) : Prop := ∀ s, s ∈ l → s.size ≤ 9223372036854775807
theorem str_bd {w : World} {P : Nat → Prop} : ∀ {l : List ByteArray} {A : Option Addr}, RowT w P (rowOf encStr l) A → StrB l
  | [], _, _ => fun s h => by simp at h
  | a :: t, A, h => fun s hs => by
    rw [rowOf] at h
    unfold RowT at h
    obtain ⟨b, o, cs, _, _, _, h1, h2⟩ := h
    rcases List.mem_cons.1 hs with rfl | hs
    · simp only [encStr, TS, TP] at h1
      obtain ⟨_, _, _, ⟨_, hz⟩, _⟩ := h1
      exact hz
    · exact str_bd h2 s hs
theorem hasN_take {xs : List ByteArray} {s x : ByteArray} {k : Nat} (h : hasN (xs.take k) s = false) (hx : xs[k]? = some x) (hne : ¬ x = s) : hasN (xs.take (k + 1)) s = false := by
  cases h' : hasN (xs.take (k + 1)) s with
  | false => rfl
  | true =>
    have := hasN_iff.1 h'
    rw [List.take_add_one, hx] at this
    rcases List.mem_append.1 this with h1 | h1
    · rw [hasN_iff.2 h1] at h; cases h
    · simp at h1; exact absurd h1.symm hne
/-- A place: none, or that of something that is there. -/
def IdxI (b : Bool) (w : World) (e : Ending) (w' : World) : Prop := ∃ k : Int, e = .returned (.int .i64 k) ∧ decide (0 ≤ k) = b ∧ Below w.heap.size w w'
set_option maxRecDepth 100000 in
theorem index_s (A : Option Addr) (n c : Nat) (xs : List ByteArray) (s : ByteArray) (w : World) (hn : n ≤ 9223372036854775807) (ha : Blk.StrsAt w w.heap.size A n xs) :
    Calls Try.prog 60 #[.slice A n c, .string s] w (IdxI (hasN xs s) w) := by
  have HA := Lib.hid ha
  clear ha
  go_enter Try.func60, Try.ntmps60
  go_wp2_with fail
  go_loopg [5, 8] n (fun g _ i wx => ∃ k : Nat, k + g = n ∧ i = .int .i64 k ∧ (∃ m, w.drewN m = wx) ∧ Aside (hasN (xs.take k) s = false))
  case atStart => exact ⟨0, by omega, rfl, ⟨0, rfl⟩, Blk.Aside.intro (by rw [List.take_zero]; rfl)⟩
  case round =>
    obtain ⟨k, hk, rfl, ⟨m, rfl⟩, H⟩ := hrel
    cases gk with
    | zero =>
      obtain rfl : k = n := by omega
      have hd : Hid (hasN xs s = false) := Lib.hid (by
        have h := H.out
        rwa [List.take_of_length_le (by rw [HA.out.1]; omega)] at h)
      clear H
      go_wp2_with fail
      go_ret
      exact ⟨-1, rfl, by rw [hd.out]; rfl, Blk.below_draws (Below.refl _ _) m⟩
    | succ g =>
      have hlt : k < n := by omega
      have hlt' : (k : Int) < (n : Int) := by omega
      obtain ⟨x, hx⟩ : ∃ x, xs[k]? = some x := ⟨_, List.getElem?_eq_getElem (by rw [HA.out.1]; omega)⟩
      obtain ⟨b1, o1, rfl, hl1, c1⟩ := HA.out.2 k x hx
      have HX := Lib.hid hx
      clear hx
      by_cases hxy : x = s
      · subst hxy
        have e1' : (x.toList == x.toList) = true := by simp
        have hT : Hid (hasN xs x = true) := Lib.hid (hasN_iff.2 (List.mem_of_getElem? HX.out))
        clear H
        go_wp2_with fail
        go_ret
        exact ⟨(k : Int), rfl, by rw [hT.out]; simp, Blk.below_draws (Below.refl _ _) _⟩
      · have hne : x.toList ≠ s.toList := fun h => hxy (by
          rw [Lib.toList_data, Lib.toList_data] at h
          exact ByteArray.ext (Array.toList_inj.1 h))
        have e1' : (x.toList == s.toList) = false := by simpa using hne
        have e2' : (s.toList == x.toList) = false := by simpa using fun h => hne h.symm
        clear hne
        have hT := Lib.hid (hasN_take H.out HX.out hxy)
        clear H hxy
        go_wp2_with fail
        go_roundg g
        case measure => omega
        case rel => exact ⟨k + 1, by omega, by go_num, ⟨_, rfl⟩, Blk.Aside.intro hT.out⟩
set_option maxRecDepth 100000 in
theorem contains_s (A : Option Addr) (n c : Nat) (xs : List ByteArray) (s : ByteArray) (w : World) (hn : n ≤ 9223372036854775807) (ha : Blk.StrsAt w w.heap.size A n xs) :
    Calls Try.prog 51 #[.slice A n c, .string s] w fun e w' => e = .returned (.bool (hasN xs s)) ∧ Below w.heap.size w w' := by
  have C := Lib.hid (index_s A n c xs s w hn ha)
  clear ha hn
  go_enter Try.func51, Try.ntmps51
  go_wp2_with fail
  refine C.out.mono ?_
  rintro e w1 ⟨k, rfl, hk, hb⟩
  have HB := Lib.hid hb
  have HK := Lib.hid hk
  clear hk hb
  go_wp2_with fail
  go_ret
  exact ⟨Blk.ret_bool HK.out, HB.out⟩
/-- A row of numbers. -/
def IntsAt (w : World) (B : Nat) (A : Option Addr) (l : List Int) : Prop := ∀ (j : Nat) x, l[j]? = some x → ∃ b o, A = some ⟨b, o, none⟩ ∧ b < B ∧ w.cell? ⟨b, o + j, none⟩ = some (.int .i64 x)
theorem IntsAt.below {w w' : World} {B : Nat} {A : Option Addr} {l : List Int} (h : IntsAt w B A l) (hb : Below B w w') : IntsAt w' B A l :=
  fun j z hz => by
    obtain ⟨b, o, e, hlt, hc⟩ := h j z hz
    exact ⟨b, o, e, hlt, (hb.cell (p := ⟨b, o + j, none⟩) hlt).trans hc⟩
def hasI (l : List Int) (x : Int) : Bool := l.any fun y => y == x
theorem hasI_take {xs : List Int} {s x : Int} {k : Nat} (h : hasI (xs.take k) s = false) (hx : xs[k]? = some x) (hne : ¬ x = s) : hasI (xs.take (k + 1)) s = false := by
  unfold hasI at h ⊢
  rw [List.take_add_one, hx, List.any_append, h]
  simpa using hne
theorem hasI_mem {xs : List Int} {k : Nat} {x : Int} (h : xs[k]? = some x) : hasI xs x = true := by
  unfold hasI
  rw [List.any_eq_true]
  exact ⟨x, List.mem_of_getElem? h, by simp⟩
set_option maxRecDepth 100000 in
theorem index_i (A : Option Addr) (n c : Nat) (xs : List Int) (s : Int) (w : World) (hn : n ≤ 9223372036854775807) (hl : xs.length = n) (ha : IntsAt w w.heap.size A xs) :
    Calls Try.prog 59 #[.slice A n c, .int .i64 s] w (IdxI (hasI xs s) w) := by
  have HA := Lib.hid ha
  have HL := Lib.hid hl
  clear ha hl
  go_enter Try.func59, Try.ntmps59
  go_wp2_with fail
  go_loopg [5, 8] n (fun g _ i wx => ∃ k : Nat, k + g = n ∧ i = .int .i64 k ∧ (∃ m, w.drewN m = wx) ∧ Aside (hasI (xs.take k) s = false))
  case atStart => exact ⟨0, by omega, rfl, ⟨0, rfl⟩, Blk.Aside.intro (by rw [List.take_zero]; rfl)⟩
  case round =>
    obtain ⟨k, hk, rfl, ⟨m, rfl⟩, H⟩ := hrel
    cases gk with
    | zero =>
      obtain rfl : k = n := by omega
      have hd : Hid (hasI xs s = false) := Lib.hid (by
        have h := H.out
        rwa [List.take_of_length_le (by rw [HL.out]; omega)] at h)
      clear H
      go_wp2_with fail
      go_ret
      exact ⟨-1, rfl, by rw [hd.out]; rfl, Blk.below_draws (Below.refl _ _) m⟩
    | succ g =>
      have hlt : k < n := by omega
      have hlt' : (k : Int) < (n : Int) := by omega
      obtain ⟨x, hx⟩ : ∃ x, xs[k]? = some x := ⟨_, List.getElem?_eq_getElem (by rw [HL.out]; omega)⟩
      obtain ⟨b1, o1, rfl, hl1, c1⟩ := HA.out k x hx
      have HX := Lib.hid hx
      clear hx
      by_cases hxy : x = s
      · subst hxy
        have e1' : (x == x) = true := by simp
        have hT : Hid (hasI xs x = true) := Lib.hid (hasI_mem HX.out)
        clear H
        go_wp2_with fail
        go_ret
        exact ⟨(k : Int), rfl, by rw [hT.out]; simp, Blk.below_draws (Below.refl _ _) _⟩
      · have e1' : (x == s) = false := by simpa using hxy
        have e2' : (s == x) = false := by simpa using fun h => hxy h.symm
        have hT := Lib.hid (hasI_take H.out HX.out hxy)
        clear H hxy
        go_wp2_with fail
        go_roundg g
        case measure => omega
        case rel => exact ⟨k + 1, by omega, by go_num, ⟨_, rfl⟩, Blk.Aside.intro hT.out⟩
set_option maxRecDepth 100000 in
theorem contains_i (A : Option Addr) (n c : Nat) (xs : List Int) (s : Int) (w : World) (hn : n ≤ 9223372036854775807) (hl : xs.length = n) (ha : IntsAt w w.heap.size A xs) :
    Calls Try.prog 50 #[.slice A n c, .int .i64 s] w fun e w' => e = .returned (.bool (hasI xs s)) ∧ Below w.heap.size w w' := by
  have C := Lib.hid (index_i A n c xs s w hn hl ha)
  clear ha hn hl
  go_enter Try.func50, Try.ntmps50
  go_wp2_with fail
  refine C.out.mono ?_
  rintro e w1 ⟨k, rfl, hk, hb⟩
  have HB := Lib.hid hb
  have HK := Lib.hid hk
  clear hk hb
  go_wp2_with fail
  go_ret
  exact ⟨Blk.ret_bool HK.out, HB.out⟩
end Go.Proofs.Ytmamgaifpjgfkaa
