/- The walks of letters.each, Good and Source. -/
import Derived.Test.YtcdcfhplkimecaaDoorCode
import Derived.Test.YtcdcfhplkimecaaDoorCodes
import Derived.Shelf.Abstract
namespace Go.Proofs.YtcdcfhplkimecaaDoor
open Go.RowKit

theorem TabAt.lt {w : World} (h : TabAt w) : 0 < w.heap.size := by
  rcases Nat.lt_or_ge 0 w.heap.size with h' | h'
  · exact h'
  · have := h 0 0 rfl
    simp [World.cell?, Array.getElem?_eq_none h'] at this
theorem TabAt.below {w w' : World} {B : Nat} (h : TabAt w) (hb : Below B w w') (hB : 0 < B) : TabAt w' := fun j z hz => (hb.cell (p := ⟨0, j, none⟩) hB).trans (h j z hz)

/-- Code at any place. -/
def codeAt (s : ByteArray) (i : Int) : Int × Int := if 0 ≤ i ∧ i < s.size then dec (s.data.toList.drop i.toNat) else (0, 0)
set_option maxRecDepth 100000 in
theorem code_any (s : ByteArray) (i : Int) (w : World) (hs : s.size ≤ 9000) (ht : TabAt w) :
    Calls Tryd.prog 72 #[.string s, .int .i64 i] w fun e w' => e = .returned (.tuple #[.int .i64 (codeAt s i).1, .int .i64 (codeAt s i).2]) ∧ Below w.heap.size w w' := by
  by_cases h : 0 ≤ i ∧ i < s.size
  · obtain ⟨n, rfl⟩ := Int.eq_ofNat_of_zero_le h.1
    have e : codeAt s n = dec (s.data.toList.drop n) := by rw [codeAt, if_pos h]; rfl
    rw [e]
    exact code_in s n w hs (by omega) ht
  · have e : codeAt s i = (0, 0) := by rw [codeAt, if_neg h]
    rw [e]
    clear e
    by_cases h0 : i < 0
    · go_enter Tryd.func72, Tryd.ntmps72
      go_wp2
      try go_step3
      go_wp2
      try rw [Exit.noGoto_ret]
      go_ret2
      exact ⟨rfl, Below.refl _ _⟩
    · have h1 : (s.size : Int) ≤ i := by omega
      clear h
      go_enter Tryd.func72, Tryd.ntmps72
      go_wp2
      try go_step3
      go_wp2
      try rw [Exit.noGoto_ret]
      go_ret2
      exact ⟨rfl, Below.refl _ _⟩

set_option maxRecDepth 100000 in
set_option maxHeartbeats 1000000 in
/-- each, over a test that only reads its number. -/
theorem each_pure (fn : Nat) (p : Int → Bool) (he : ∀ args w, (callFunc fn args).run Tryd.prog w = .ok (.enter fn args) w) (hp : ∀ (c : Int) (w : World), Calls Tryd.prog fn #[.int .i64 c] w fun e w' => e = .returned (.bool (p c)) ∧ w = w') (s : ByteArray) (w : World) (hs : s.size ≤ 9000) (ht : TabAt w) :
    Calls Tryd.prog 60 #[.string s, .func (.func fn) #[] #[]] w fun e w' => e = .returned (.bool (eachP p s.data.toList)) ∧ Below w.heap.size w w' := by
  have HP := Lib.hid hp
  have HT := Lib.hid ht
  clear hp ht
  have hlen : s.data.toList.length = s.size := Array.length_toList
  have HL := Lib.hid hlen
  clear hlen
  go_enter Tryd.func60, Tryd.ntmps60
  go_wp2
  go_loopg [5] s.size (fun g i wx => ∃ k : Nat, k + g = s.size ∧ i = .int .i64 k ∧ Below w.heap.size w wx ∧ Aside (eachP p (s.data.toList.drop k) = eachP p s.data.toList))
  case atStart => exact ⟨0, by omega, rfl, Below.refl _ _, Aside.intro rfl⟩
  case round =>
    obtain ⟨k, hk, rfl, hb, H⟩ := hrel
    cases gk with
    | zero =>
      obtain rfl : k = s.size := by omega
      have h2 : Hid (eachP p s.data.toList = true) := Lib.hid (by rw [← H.out, List.drop_eq_nil_of_le (by rw [HL.out]; omega)]; rfl)
      clear H
      go_wp2
      go_ret
      exact ⟨ret_bool h2.out.symm, hb⟩
    | succ g =>
      have hlt : k < s.size := by omega
      have hlt' : (k : Int) < (s.size : Int) := by omega
      have hne : Hid (s.data.toList.drop k ≠ []) := Lib.hid (fun e => by have := congrArg List.length e; rw [List.length_drop, HL.out] at this; simp at this; omega)
      have hdl : Hid ((s.data.toList.drop k).length = s.size - k) := Lib.hid (by rw [List.length_drop, HL.out])
      have hbd := dec_bd (s.data.toList.drop k)
      have hcode := code_in s k wr hs hlt (HT.out.below hb HT.out.lt)
      have hst := Lib.hid (eachP_step (p := p) (l := s.data.toList.drop k) hne.out)
      have hbad := Lib.hid (eachP_bad (p := p) (l := s.data.toList.drop k) hne.out)
      generalize dec (s.data.toList.drop k) = d at *
      obtain ⟨c, n⟩ := d
      simp only at hbd hcode hst hbad
      obtain ⟨b1, b2, b3, b4, b5, b6⟩ := hbd
      rw [hdl.out] at b3
      have HC := Lib.hid hcode
      clear hcode b6
      by_cases hn : n = 0
      · have hfin : Hid (eachP p s.data.toList = false) := Lib.hid (by rw [← H.out]; exact hbad.out hn)
        have z0 : (n == 0) = true := by simp [hn]
        clear H hst hbad hn
        go_wp2_with fail
        refine HC.out.mono ?_
        rintro e w1 ⟨rfl, hb1⟩
        go_wp2_with fail
        go_ret
        exact ⟨ret_bool hfin.out.symm, hb.trans (hb1.mono hb.size)⟩
      · have z0 : (n == 0) = false := by simp [hn]
        cases hpc : p c
        · have hfin : Hid (eachP p s.data.toList = false) := Lib.hid (by rw [← H.out, hst.out hn, hpc]; rfl)
          have hpc' := Lib.hid hpc
          clear H hst hbad hn hpc
          go_wp2_with fail
          refine HC.out.mono ?_
          rintro e w1 ⟨rfl, hb1⟩
          go_wp2_with fail
          refine (HP.out _ _).mono ?_
          rintro e w2 ⟨rfl, rfl⟩
          rw [hpc'.out]
          go_wp2_with fail
          go_ret
          exact ⟨ret_bool hfin.out.symm, hb.trans (hb1.mono hb.size)⟩
        · have hfin : Hid (eachP p ((s.data.toList.drop k).drop n.toNat) = eachP p s.data.toList) := Lib.hid (by rw [← H.out, hst.out hn, hpc]; rfl)
          have hpc' := Lib.hid hpc
          have hn1 : 1 ≤ n := by omega
          clear H hst hbad hn hpc
          go_wp2_with fail
          refine HC.out.mono ?_
          rintro e w1 ⟨rfl, hb1⟩
          go_wp2_with fail
          refine (HP.out _ _).mono ?_
          rintro e w2 ⟨rfl, rfl⟩
          rw [hpc'.out]
          go_wp2_with fail
          obtain ⟨m, rfl⟩ := Int.eq_ofNat_of_zero_le b1
          go_roundg (s.size - (k + m))
          case measure => omega
          case rel => exact ⟨k + m, by omega, by go_num, hb.trans (hb1.mono hb.size), Aside.intro (by rw [← hfin.out, List.drop_drop]; rfl)⟩

theorem goodFn (c : Int) (w : World) : Calls Tryd.prog 61 #[.int .i64 c] w fun e w' => e = .returned (.bool ((fun _ => true) c)) ∧ w = w' := by
  go_enter Tryd.func61, Tryd.ntmps61
  go_wp2
  go_ret
  exact ⟨rfl, rfl⟩
theorem good_any (s : ByteArray) (w : World) (hs : s.size ≤ 9000) (ht : TabAt w) : Calls Tryd.prog 36 #[.string s] w fun e w' => e = .returned (.bool (goodB s.data.toList)) ∧ Below w.heap.size w w' := by
  have H := Lib.hid (each_pure 61 (fun _ => true) (Go.Proofs.enters_of Tryd.func61 (by kernel_rfl) rfl) goodFn s w hs ht)
  go_enter Tryd.func36, Tryd.ntmps36
  go_wp2_with fail
  refine H.out.mono ?_
  rintro e w' ⟨rfl, hb⟩
  go_wp2_with fail
  go_ret
  exact ⟨rfl, hb⟩
end Go.Proofs.YtcdcfhplkimecaaDoor
