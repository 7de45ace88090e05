/- The walk of seineref6.SameTokens: two lists of tokens, alike or not. -/
import Derived.Test.YtnmidlbhkjcimaaDoorZCopy
import Derived.Test.YtnmidlbhkjcimaaDoorVSameP2
import Derived.Deep.QuietTactic
import Derived.BigQuiet
import Derived.Deep.Draws
namespace Go.Proofs.YtnmidlbhkjcimaaDoor
open Go.RowKit

open Classical in
noncomputable def tokEq (ts us : List (Int × ByteArray)) : Bool := decide (ts = us)
theorem tokEq_yes {ts us : List (Int × ByteArray)} (h : ts = us) : tokEq ts us = true := by unfold tokEq; simp [h]
theorem tokEq_no {ts us : List (Int × ByteArray)} (h : ¬ ts = us) : tokEq ts us = false := by unfold tokEq; simp [h]
/-- These tokens, somewhere in memory. -/
def TL (w : World) (A : Option Addr) (n : Nat) (ts : List (Int × ByteArray)) : Prop := ts.length = n ∧ ∀ (j : Nat) t, ts[j]? = some t → ∃ b o, A = some ⟨b, o, none⟩ ∧ b < w.heap.size ∧ w.cell? ⟨b, o + j * 2, none⟩ = some (.int .i64 t.1) ∧ w.cell? ⟨b, o + j * 2 + 1, none⟩ = some (.string t.2)
theorem TL.below {w w' : World} {A : Option Addr} {n : Nat} {ts : List (Int × ByteArray)} (h : TL w A n ts) (hb : Below w.heap.size w w') : TL w' A n ts :=
  ⟨h.1, fun j t ht => by
    obtain ⟨b, o, e, hlt, h0, h1⟩ := h.2 j t ht
    exact ⟨b, o, e, Nat.lt_of_lt_of_le hlt hb.size, (hb.cell (p := ⟨b, o + j * 2, none⟩) hlt).trans h0, (hb.cell (p := ⟨b, o + j * 2 + 1, none⟩) hlt).trans h1⟩⟩
theorem cellsT_at : ∀ (ts : List (Int × ByteArray)) (j : Nat) t, ts[j]? = some t → (cellsT ts)[j * 2]? = some (.int .i64 t.1) ∧ (cellsT ts)[j * 2 + 1]? = some (.string t.2)
  | [], _, _, h => by simp at h
  | u :: ts, 0, t, h => by
    have : u = t := by simpa using h
    subst this
    exact ⟨rfl, rfl⟩
  | u :: ts, j + 1, t, h => by
    obtain ⟨h0, h1⟩ := cellsT_at ts j t (by simpa using h)
    refine ⟨?_, ?_⟩
    · rw [show (j + 1) * 2 = j * 2 + 2 by omega]; simpa [cellsT] using h0
    · rw [show (j + 1) * 2 + 1 = (j * 2 + 1) + 2 by omega]; simpa [cellsT] using h1
theorem TR.live {base : Nat} {w : World} {V : Value} {ts : List (Int × ByteArray)} (h : TR base w V ts) : ∃ A c, V = .slice A ts.length c ∧ TL w A ts.length ts := by
  cases ts with
  | nil =>
    obtain ⟨A, c, rfl⟩ := shape_own h
    exact ⟨A, c, rfl, rfl, fun j t ht => by simp at ht⟩
  | cons u us =>
    obtain ⟨g, c, rfl, _, hlt, hc⟩ := h.at (by simp)
    refine ⟨_, c, rfl, rfl, fun j t ht => ?_⟩
    obtain ⟨h0, h1⟩ := cellsT_at _ j t ht
    exact ⟨g, 0, rfl, hlt, by rw [Nat.zero_add]; exact hc _ _ h0, by rw [Nat.zero_add]; exact hc _ _ h1⟩
theorem take_next {α : Type} {xs ys : List α} {k : Nat} {x : α} (h : xs.take k = ys.take k) (ha : xs[k]? = some x) (hb : ys[k]? = some x) : xs.take (k + 1) = ys.take (k + 1) := by
  rw [List.take_add_one, List.take_add_one, h, ha, hb]
set_option maxRecDepth 100000 in
set_option maxHeartbeats 4000000 in
theorem toks_same (A A' : Option Addr) (n n' c c' : Nat) (ts us : List (Int × ByteArray)) (w : World) (h1 : TL w A n ts) (h2 : TL w A' n' us) (hn : n ≤ 200000) (hn' : n' ≤ 200000) :
    Calls Tryd.prog 9 #[.slice A n c, .slice A' n' c'] w fun e w' => e = .returned (.bool (tokEq ts us)) ∧ Below w.heap.size w w' := by
  by_cases hnn : n = n'
  · subst hnn
    have e0 : ((n : Int) != (n : Int)) = false := by simp
    have HL := Lib.hid h1.1
    have HL' := Lib.hid h2.1
    have H1 := Lib.hid h1
    have H2 := Lib.hid h2
    clear h1 h2 hn'
    go_enter Tryd.func9, Tryd.ntmps9
    go_wp2
    go_loopg [5] n (fun g i wx => ∃ k : Nat, k + g = n ∧ i = .int .i64 k ∧ Aside (ts.take k = us.take k) ∧ ∃ d, wx = w.drewN d)
    case atStart => exact ⟨0, by omega, rfl, vaside (by simp), 0, rfl⟩
    case round =>
      obtain ⟨k, hk, rfl, HA, d, rfl⟩ := hrel
      by_cases hlt : k < n
      · have hlt' : (k : Int) < (n : Int) := by omega
        have hk0 : (0 : Int) ≤ (k : Int) := by omega
        obtain ⟨⟨z, x⟩, ht⟩ : ∃ t, ts[k]? = some t := ⟨_, List.getElem?_eq_getElem (by rw [HL.out]; omega)⟩
        obtain ⟨⟨z', x'⟩, hu⟩ : ∃ t, us[k]? = some t := ⟨_, List.getElem?_eq_getElem (by rw [HL'.out]; omega)⟩
        obtain ⟨b, o, rfl, hb, c0, c1⟩ := H1.out.2 k _ ht
        obtain ⟨b', o', rfl, hb', d0, d1⟩ := H2.out.2 k _ hu
        simp only at c0 c1 d0 d1
        by_cases hz : z = z'
        · by_cases hx : x = x'
          · subst hz hx
            have x0 : (x.toList == x.toList) = true := by simp
            have hA2 := Lib.hid (take_next HA ht hu)
            clear ht hu HA
            go_wp2
            go_quiet (fail)
            go_wp2
            go_roundg (gk - 1)
            case measure => omega
            case rel => exact ⟨k + 1, by omega, by go_num, vaside hA2.out, _, rfl⟩
          · subst hz
            have x0 : (x.toList == x'.toList) = false := by
              have : ¬ x.toList = x'.toList := fun h => hx (ba_eq.1 h)
              simpa using this
            have hE : Hid (tokEq ts us = false) := Lib.hid (tokEq_no (fun e => hx (by rw [e, hu] at ht; exact (congrArg (fun q : Int × ByteArray => q.2) (Option.some.inj ht)).symm)))
            clear ht hu HA hx
            go_wp2
            go_quiet (fail)
            go_wp2
            go_ret
            exact ⟨ret_bool hE.out.symm, by first | exact vbelow_draws (Below.refl _ _) _ | exact vbelow_draws (vbelow_draws (Below.refl _ _) _) _⟩
        · have z0 : (z == z') = false := by simpa using hz
          have hE : Hid (tokEq ts us = false) := Lib.hid (tokEq_no (fun e => hz (by rw [e, hu] at ht; exact (congrArg (fun q : Int × ByteArray => q.1) (Option.some.inj ht)).symm)))
          clear ht hu HA hz
          go_wp2
          go_quiet (fail)
          go_wp2
          go_ret
          exact ⟨ret_bool hE.out.symm, by first | exact vbelow_draws (Below.refl _ _) _ | exact vbelow_draws (vbelow_draws (Below.refl _ _) _) _⟩
      · obtain rfl : k = n := by omega
        have hE : Hid (tokEq ts us = true) := Lib.hid (tokEq_yes (by rwa [List.take_of_length_le (by rw [HL.out]; exact Nat.le_refl _), List.take_of_length_le (by rw [HL'.out]; exact Nat.le_refl _)] at HA))
        clear HA
        go_wp2
        go_ret
        exact ⟨ret_bool hE.out.symm, by first | exact vbelow_draws (Below.refl _ _) _ | exact vbelow_draws (vbelow_draws (Below.refl _ _) _) _⟩
  · have e0 : ((n : Int) != (n' : Int)) = true := by simp; omega
    have hE : Hid (tokEq ts us = false) := Lib.hid (tokEq_no (fun e => hnn (by rw [← h1.1, ← h2.1, e])))
    clear hnn h1 h2
    go_enter Tryd.func9, Tryd.ntmps9
    go_wp2
    go_ret
    exact ⟨ret_bool hE.out.symm, Below.refl _ _⟩
end Go.Proofs.YtnmidlbhkjcimaaDoor
