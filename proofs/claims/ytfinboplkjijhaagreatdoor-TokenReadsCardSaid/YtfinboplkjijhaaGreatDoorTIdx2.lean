/- The walk of strings.IndexAny for the two signs that end a line, whatever the text; and token's gap. -/
import Derived.Test.YtfinboplkjijhaaGreatDoorTIdx
import Derived.Test.YtfinboplkjijhaaGreatDoorTNum2
import Derived.Lib.OthersKept
namespace Go.Proofs.YtfinboplkjijhaaGreatDoor
open Go.RowKit

theorem decode_tail (s : ByteArray) (pos : Nat) : ∀ j, 1 ≤ j → j < (Utf8.decode s pos).2 → pos + j < s.size ∧ (s.get! (pos + j)).toNat / 64 = 2 := by
  intro j h1 h2
  have hj : j = 1 ∨ j = 2 ∨ j = 3 ∨ 4 ≤ j := by omega
  simp only [Utf8.decode] at h2
  rcases hj with rfl | rfl | rfl | hj
  all_goals
    repeat' split at h2
    all_goals simp_all
    all_goals omega
theorem get_at (s : ByteArray) (i : Nat) (h : i < s.size) : s.get! i = s[i] := by
  simp [ByteArray.get!, h]
  rfl
theorem noAny_skip {s : ByteArray} {i K : Nat} (hn : Lib.NoAny s.data.toList [10, 13] i) (hi : i < s.size) (h128 : 128 ≤ (s[i]'hi).toNat) (hK : ∀ j, 1 ≤ j → j < K → i + j < s.size ∧ (s.get! (i + j)).toNat / 64 = 2) : Lib.NoAny s.data.toList [10, 13] (i + K) := by
  intro j b hj hb
  by_cases h1 : j < i
  · exact hn j b h1 hb
  · have hbig : 128 ≤ b.toNat := by
      have hjl : j < s.data.toList.length := (List.getElem?_eq_some_iff.1 hb).1
      rw [len_data] at hjl
      have hb' : s[j] = b := by
        have := (List.getElem?_eq_some_iff.1 hb).2
        rw [← this]
        rfl
      by_cases h2 : j = i
      · subst h2; rw [← hb']; exact h128
      · have := (hK (j - i) (by omega) (by omega)).2
        rw [show i + (j - i) = j by omega, get_at s j hjl, hb'] at this
        omega
    have h10 : b ≠ 10 := fun e => by subst e; exact absurd hbig (by decide)
    have h13 : b ≠ 13 := fun e => by subst e; exact absurd hbig (by decide)
    simp [h10, h13]
theorem below_iterAt {B : Nat} {a w : World} (h : Below B a w) {k : Nat} (hk : B ≤ k) (s : ByteArray) (p : Nat) : Below B a (w.iterAt k s p) := by
  refine ⟨h.os, h.tape, h.output, by simpa [World.iterAt] using h.size, fun j hj => ?_⟩
  rw [← h.block j hj]
  show (w.heap.setIfInBounds k (.stringIter s p))[j]? = w.heap[j]?
  rw [Array.getElem?_setIfInBounds_ne (by omega)]

theorem short_set (n : Nat) (h8 : (n : Int) ≤ 8) (w : World) : Calls Tryz.prog 73 #[.int .i64 (n : Int)] w fun e w' => e = .returned (.bool false) ∧ w = w' := by
  go_enter Tryz.func73, Tryz.ntmps73
  go_wp2
  go_ret
  exact ⟨ret_bool (by simp; omega), rfl⟩

set_option maxRecDepth 100000 in
set_option maxHeartbeats 1000000 in
theorem indexAny_short (s : ByteArray) (w : World) (h8 : s.size ≤ 8) : Calls Tryz.prog 50 #[.string s, .string ⟨#[10, 13]⟩] w fun e w' => e = .returned (.int .i64 (Lib.indexAny s.data.toList [10, 13])) ∧ Below w.heap.size w w' := by
  have hl := len_data s
  have h8z : (s.size : Int) ≤ 8 := by omega
  have HLEN := Lib.hid hl
  clear hl
  go_enter Tryz.func50, Tryz.ntmps50
  go_wp2_with fail
  refine (short_set s.size h8z _).mono ?_
  rintro e w' ⟨rfl, rfl⟩
  go_wp2_with fail
  go_loopg [9, 10] s.size (fun g _ _ wx => ∃ i : Nat, i + g = s.size ∧ wx.heap[w.heap.size]? = some (.stringIter s i) ∧ Below w.heap.size w wx ∧ Aside (Lib.NoAny s.data.toList [10, 13] i))
  case atStart => exact ⟨0, by omega, World.iter_heap _ _ _, below_iter _ _ _, Aside.intro (Lib.NoAny.zero _ _)⟩
  case round =>
    obtain ⟨i, hig, hit, hb, HN⟩ := hrel
    have HB := Lib.hid hb
    have hbs := hb.size
    clear hb
    by_cases hi : i < s.size
    · have HIT := Lib.hid hit
      have hlt : w.heap.size < wr.heap.size := (Array.getElem?_eq_some_iff.1 hit).1
      by_cases ha : (s[i]'hi).toNat < 128
      · have hnx := fun ty => Lib.run_next_ascii_at (P := Tryz.prog) wr w.heap.size s i ty hit hi ha
        obtain ⟨x, hx⟩ : ∃ x : UInt8, s[i]'hi = x := ⟨_, rfl⟩
        have hxl : s.data.toList[i]? = some x := by rw [← hx]; exact Lib.data_getElem? s i hi
        rw [hx] at hnx ha
        have hI := indexRune_ascii ⟨#[10, 13]⟩ (x.toNat : Int) (wr.iterAt w.heap.size s (i + 1)) (by omega) (by omega)
        rw [show ((x.toNat : Int)).toNat.toUInt8 = x by simp] at hI
        have hcon := Lib.contains_iff_indexByte [10, 13] x
        obtain ⟨r, hr⟩ : ∃ r, Lib.indexByte (⟨#[10, 13]⟩ : ByteArray).data.toList x = r := ⟨_, rfl⟩
        rw [hr] at hI
        change Lib.indexByte [10, 13] x = r at hr
        rw [hr] at hcon
        have HI := Lib.hid hI
        have Hxl := Lib.hid hxl
        clear hit hx hxl hI hr
        cases hin : ([10, 13] : List UInt8).contains x
        · have hneg : ¬ (0 : Int) ≤ r := by rw [hin] at hcon; exact of_decide_eq_false hcon.symm
          have HN2 := Lib.hid (HN.out.succ Hxl.out hin)
          clear hcon hin HN
          go_wp2_with fail
          refine HI.out.mono ?_
          rintro e w2 ⟨rfl, rfl⟩
          go_wp2_with fail
          go_roundg (gk - 1)
          case measure => omega
          case rel => exact ⟨i + 1, by omega, Lib.iterAt_heap _ _ _ _ _ HIT.out, below_iterAt HB.out (Nat.le_refl _) _ _, Aside.intro HN2.out⟩
        · have hpos : (0 : Int) ≤ r := by rw [hin] at hcon; exact of_decide_eq_true hcon.symm
          have hr : Hid (Lib.indexAny s.data.toList [10, 13] = i) := Lib.hid (Lib.indexAny_hit HN.out Hxl.out hin)
          clear hcon hin HN
          go_wp2_with fail
          refine HI.out.mono ?_
          rintro e w2 ⟨rfl, rfl⟩
          go_wp2_with fail
          go_ret
          exact ⟨ret_i hr.out.symm, below_iterAt HB.out (Nat.le_refl _) _ _⟩
      · have hd := decode_high s i hi (by omega)
        have hnx := fun ty => Lib.run_next_any_at (P := Tryz.prog) wr w.heap.size s i ty hit hi
        have HN2 := Lib.hid (noAny_skip HN.out hi (by omega) (decode_tail s i))
        have hw4 : i + (Utf8.decode s i).2 ≤ s.size := by
          by_cases h1 : (Utf8.decode s i).2 = 1
          · omega
          · have := (decode_tail s i ((Utf8.decode s i).2 - 1) (by omega) (by omega)).1
            omega
        obtain ⟨c, hc⟩ : ∃ c, (Utf8.decode s i).1 = c := ⟨_, rfl⟩
        obtain ⟨K, hK⟩ : ∃ K, (Utf8.decode s i).2 = K := ⟨_, rfl⟩
        rw [hc] at hd hnx
        rw [hK] at hd hnx HN2 hw4
        have HI := Lib.hid (indexRune_high ⟨#[10, 13]⟩ rfl rfl (by decide) (c : Int) (by omega) (wr.iterAt w.heap.size s (i + K)))
        clear hit hc hK HN
        go_wp2_with fail
        refine HI.out.mono ?_
        rintro e w2 ⟨rfl, hb2⟩
        have HBb := Lib.hid hb2
        clear hb2
        go_wp2_with fail
        go_roundg (gk - K)
        case measure => omega
        case rel => exact ⟨i + K, by omega, (HBb.out.block w.heap.size (by simpa [World.iterAt] using hlt)).trans (Lib.iterAt_heap _ _ _ _ _ HIT.out), (below_iterAt HB.out (Nat.le_refl _) s (i + K)).trans (HBb.out.mono (by simpa [World.iterAt] using hbs)), Aside.intro HN2.out⟩
    · obtain rfl : i = s.size := by omega
      have hnx := fun ty => Lib.run_next_end_at (P := Tryz.prog) wr w.heap.size s s.size ty hit hi
      have hr : Hid (Lib.indexAny s.data.toList [10, 13] = -1) := Lib.hid (Lib.indexAny_none (by rw [HLEN.out]; exact HN.out))
      clear hit HN
      go_wp2_with fail
      go_ret
      exact ⟨ret_i hr.out.symm, HB.out⟩
end Go.Proofs.YtfinboplkjijhaaGreatDoor
