/- The walk of the document's own Code: what it answers is the plain function 'dec' of the bytes from the place on; it leaves the world as it was. -/
import Derived.Test.YtcfdfgbobnocnaaGreatDoorLtFits
import Derived.Test.YtcfdfgbobnocnaaGreatDoorTNum2
import Derived.Test.YtcfdfgbobnocnaaGreatDoorEach
import Derived.Test.YtcfdfgbobnocnaaGreatDoorBMath
namespace Go.Proofs.YtcfdfgbobnocnaaGreatDoor
open Go.RowKit

/-- All below a box stands, and the box. -/
def KBx (w : World) (o : Obj) (W : World) : Prop := Below (w.heap.size + 1) (w.alloc o) W
theorem KBx.start (w : World) (o : Obj) : KBx w o (w.alloc o) := Below.refl _ _
theorem KBx.low {w W : World} {o : Obj} (h : KBx w o W) : Below w.heap.size w W := ((Below.refl w.heap.size w).alloc (Nat.le_refl _) o).trans (h.mono (Nat.le_succ _))
theorem KBx.up {w W : World} {o : Obj} (h : KBx w o W) : w.heap.size + 1 ≤ W.heap.size := by
  have := h.size
  have : (w.alloc o).heap.size = w.heap.size + 1 := by simp
  omega
theorem KBx.next {w W W' : World} {o : Obj} (h : KBx w o W) (hb : Below W.heap.size W W') : KBx w o W' := h.trans (hb.mono h.up)
theorem KBx.row {w W W' : World} {o : Obj} {row : Option Nat} (h : KBx w o W) (hg : W.grownBy W' row) (hr : ∀ k, row = some k → w.heap.size + 1 ≤ k) : KBx w o W' := h.grown hg h.up hr
theorem KBx.five {w W : World} {c0 c1 c2 c3 c4 : Value} (h : KBx w (.cells #[c0, c1, c2, c3, c4] 30) W) : Five W w.heap.size 0 c0 c1 c2 c3 c4 := (five_at_new w _ _ _ _ _ _ rfl).below h (Nat.lt_succ_self _)
theorem KBx.at {w W : World} {o : Obj} {v : VT} {c0 c1 c2 c3 c4 : Value} (h : KBx w o W) (hv : VAt w w.heap.size v c0 c1 c2 c3 c4) : VAt W w.heap.size v c0 c1 c2 c3 c4 := VAt.below h.low _ _ _ _ _ _ hv
theorem KBx.laid {w W : World} {o : Obj} (h : KBx w o W) (hw : Laid5 w) : Laid5 W := hw.below h.low
end Go.Proofs.YtcfdfgbobnocnaaGreatDoor
namespace Go.Proofs.YtcfdfgbobnocnaaGreatDoor
open Go.RowKit

theorem dec_lead_none {l : List UInt8} {k : Nat} (hk : k < 4) (h : leads k (byt l 0)) (hn : decK k l = none) : dec l = (0, 0) :=
  dec_none fun j hj => by
    by_cases e : j = k
    · subst e; exact hn
    · exact decK_leads fun x => e (leads_inj hj hk x h)
theorem dec_no_lead {l : List UInt8} (h : ∀ k, k < 4 → ¬ leads k (byt l 0)) : dec l = (0, 0) := dec_none fun j hj => decK_leads (h j hj)
theorem dec_two {l : List UInt8} (h0 : 192 ≤ byt l 0) (h1 : byt l 0 < 194) : dec l = (0, 0) := by
  refine dec_lead_none (k := 1) (by omega) (by simp only [leads, lead, wide]; omega) ?_
  by_cases hc : contB (byt l 1) = true
  · refine decK_fair (fun h => ?_)
    have hb : 128 ≤ byt l 1 ∧ byt l 1 ≤ 191 := by simpa [contB] using hc
    simp only [fair, acc, lead, least, Nat.reduceAdd] at h
    omega
  · exact decK_cont (j := 1) (by omega) (by omega) hc
theorem dec_four {l : List UInt8} (h0 : 245 ≤ byt l 0) (h1 : byt l 0 < 248) : dec l = (0, 0) := by
  refine dec_lead_none (k := 3) (by omega) (by simp only [leads, lead, wide]; omega) ?_
  by_cases c1 : contB (byt l 1) = true
  · by_cases c2 : contB (byt l 2) = true
    · by_cases c3 : contB (byt l 3) = true
      · refine decK_fair (fun h => ?_)
        have b1 : 128 ≤ byt l 1 ∧ byt l 1 ≤ 191 := by simpa [contB] using c1
        have b2 : 128 ≤ byt l 2 ∧ byt l 2 ≤ 191 := by simpa [contB] using c2
        have b3 : 128 ≤ byt l 3 ∧ byt l 3 ≤ 191 := by simpa [contB] using c3
        simp only [fair, acc, lead, least, Nat.reduceAdd] at h
        omega
      · exact decK_cont (j := 3) (by omega) (by omega) c3
    · exact decK_cont (j := 2) (by omega) (by omega) c2
  · exact decK_cont (j := 1) (by omega) (by omega) c1
theorem and_31_all : ∀ a : Fin 256, (192 ≤ a.val ∧ a.val < 224 → bits .and .i64 ((a.val : Nat) : Int) 31 = ((a.val : Nat) : Int) - 192) ∧ (224 ≤ a.val ∧ a.val < 240 → bits .and .i64 ((a.val : Nat) : Int) 15 = ((a.val : Nat) : Int) - 224) ∧ (240 ≤ a.val ∧ a.val < 248 → bits .and .i64 ((a.val : Nat) : Int) 7 = ((a.val : Nat) : Int) - 240) := by decide +kernel
theorem and_31 {a : Int} (h0 : 192 ≤ a) (h1 : a < 224) : bits .and .i64 a 31 = a - 192 := by
  obtain ⟨n, rfl⟩ := Int.eq_ofNat_of_zero_le (show 0 ≤ a by omega)
  exact (and_31_all ⟨n, by omega⟩).1 ⟨by show 192 ≤ n; omega, by show n < 224; omega⟩
theorem and_15 {a : Int} (h0 : 224 ≤ a) (h1 : a < 240) : bits .and .i64 a 15 = a - 224 := by
  obtain ⟨n, rfl⟩ := Int.eq_ofNat_of_zero_le (show 0 ≤ a by omega)
  exact (and_31_all ⟨n, by omega⟩).2.1 ⟨by show 224 ≤ n; omega, by show n < 240; omega⟩
theorem and_7 {a : Int} (h0 : 240 ≤ a) (h1 : a < 248) : bits .and .i64 a 7 = a - 240 := by
  obtain ⟨n, rfl⟩ := Int.eq_ofNat_of_zero_le (show 0 ≤ a by omega)
  exact (and_31_all ⟨n, by omega⟩).2.2 ⟨by show 240 ≤ n; omega, by show n < 248; omega⟩
theorem ret_pair' {a b c d : Int} {w : World} {p : Int × Int} (h : (c, d) = p) (ha : a = c) (hb : b = d) :
    Ending.returned (.tuple #[.int .i64 a, .int .i64 b]) = .returned (.tuple #[.int .i64 p.1, .int .i64 p.2]) ∧ w = w := by subst h ha hb; exact ⟨rfl, rfl⟩

set_option maxRecDepth 100000 in
set_option maxHeartbeats 1000000 in
theorem rcode_0 (s : ByteArray) (i : Nat) (w : World) (_hs : s.size ≤ 9000) (hi : i < s.size) (ha : byt (s.data.toList.drop i) 0 < 128) :
    Calls Tryz.prog 75 #[.string s, .int .i64 i] w fun e w' => e = .returned (.tuple #[.int .i64 (dec (s.data.toList.drop i)).1, .int .i64 (dec (s.data.toList.drop i)).2]) ∧ w = w' := by
  have hlen : Hid ((s.data.toList.drop i).length = s.size - i) := Lib.hid (by rw [List.length_drop, Lib.size_eq])
  have hb0 := byt_lt (s.data.toList.drop i) 0
  have e0 : (s[i].toNat : Int) = byt (s.data.toList.drop i) 0 := byt_drop s i 0 hi
  have eb := byt_drop s i
  generalize hl : s.data.toList.drop i = l at *
  clear hl
  have EB := Lib.hid eb
  clear eb
  have hb0' := hb0.1
  have hb0'' := hb0.2
  clear hb0
  have d1 : decide (s.size ≤ i) = false := by simpa using hi
  have d2 : decide ((i : Int) < 0) = false := by simp
  have hd := Lib.hid (dec_of (l := l) (k := 0) (by omega) (by rw [hlen.out]; omega) (by simp only [leads, lead, wide]; omega) rfl rfl ⟨by simp only [acc, least, lead]; omega, by simp only [acc, lead]; omega, by simp only [acc, lead, halfB]; simp; omega⟩)
  go_enter Tryz.func75, Tryz.ntmps75
  go_wp2
  go_ret2
  exact ret_pair' hd.out.symm (by simp [acc, lead]) rfl
set_option maxRecDepth 100000 in
set_option maxHeartbeats 1000000 in
theorem rcode_lo (s : ByteArray) (i : Nat) (w : World) (_hs : s.size ≤ 9000) (hi : i < s.size) (ha : 128 ≤ byt (s.data.toList.drop i) 0) (hb : byt (s.data.toList.drop i) 0 < 194) :
    Calls Tryz.prog 75 #[.string s, .int .i64 i] w fun e w' => e = .returned (.tuple #[.int .i64 (dec (s.data.toList.drop i)).1, .int .i64 (dec (s.data.toList.drop i)).2]) ∧ w = w' := by
  have hlen : Hid ((s.data.toList.drop i).length = s.size - i) := Lib.hid (by rw [List.length_drop, Lib.size_eq])
  have hb0 := byt_lt (s.data.toList.drop i) 0
  have e0 : (s[i].toNat : Int) = byt (s.data.toList.drop i) 0 := byt_drop s i 0 hi
  have eb := byt_drop s i
  generalize hl : s.data.toList.drop i = l at *
  clear hl
  have EB := Lib.hid eb
  clear eb
  have hb0' := hb0.1
  have hb0'' := hb0.2
  clear hb0
  have d1 : decide (s.size ≤ i) = false := by simpa using hi
  have d2 : decide ((i : Int) < 0) = false := by simp
  have hd := Lib.hid (show dec l = (0, 0) by
    by_cases h : byt l 0 < 192
    · refine dec_no_lead (fun k hk => ?_)
      match k, hk with
      | 0, _ | 1, _ | 2, _ | 3, _ => simp only [leads, lead, wide]; omega
    · exact dec_two (by omega) hb)
  go_enter Tryz.func75, Tryz.ntmps75
  go_wp2
  go_ret2
  exact ret_pair' hd.out.symm rfl rfl
set_option maxRecDepth 100000 in
set_option maxHeartbeats 1000000 in
theorem rcode_hi (s : ByteArray) (i : Nat) (w : World) (_hs : s.size ≤ 9000) (hi : i < s.size) (ha : 245 ≤ byt (s.data.toList.drop i) 0) :
    Calls Tryz.prog 75 #[.string s, .int .i64 i] w fun e w' => e = .returned (.tuple #[.int .i64 (dec (s.data.toList.drop i)).1, .int .i64 (dec (s.data.toList.drop i)).2]) ∧ w = w' := by
  have hlen : Hid ((s.data.toList.drop i).length = s.size - i) := Lib.hid (by rw [List.length_drop, Lib.size_eq])
  have hb0 := byt_lt (s.data.toList.drop i) 0
  have e0 : (s[i].toNat : Int) = byt (s.data.toList.drop i) 0 := byt_drop s i 0 hi
  have eb := byt_drop s i
  generalize hl : s.data.toList.drop i = l at *
  clear hl
  have EB := Lib.hid eb
  clear eb
  have hb0' := hb0.1
  have hb0'' := hb0.2
  clear hb0
  have d1 : decide (s.size ≤ i) = false := by simpa using hi
  have d2 : decide ((i : Int) < 0) = false := by simp
  have hd := Lib.hid (show dec l = (0, 0) by
    by_cases h : byt l 0 < 248
    · exact dec_four ha h
    · refine dec_no_lead (fun k hk => ?_)
      match k, hk with
      | 0, _ | 1, _ | 2, _ | 3, _ => simp only [leads, lead, wide]; omega)
  go_enter Tryz.func75, Tryz.ntmps75
  go_wp2
  go_ret2
  exact ret_pair' hd.out.symm rfl rfl
set_option maxRecDepth 100000 in
set_option maxHeartbeats 1000000 in
theorem rcode_1 (s : ByteArray) (i : Nat) (w : World) (hs : s.size ≤ 9000) (hi : i < s.size) (ha : 194 ≤ byt (s.data.toList.drop i) 0) (hb : byt (s.data.toList.drop i) 0 < 224) :
    Calls Tryz.prog 75 #[.string s, .int .i64 i] w fun e w' => e = .returned (.tuple #[.int .i64 (dec (s.data.toList.drop i)).1, .int .i64 (dec (s.data.toList.drop i)).2]) ∧ w = w' := by
  have hlen : Hid ((s.data.toList.drop i).length = s.size - i) := Lib.hid (by rw [List.length_drop, Lib.size_eq])
  have hb0 := byt_lt (s.data.toList.drop i) 0
  have e0 : (s[i].toNat : Int) = byt (s.data.toList.drop i) 0 := byt_drop s i 0 hi
  have eb := byt_drop s i
  generalize hl : s.data.toList.drop i = l at *
  clear hl
  have EB := Lib.hid eb
  clear eb
  have hb0' := hb0.1
  have hb0'' := hb0.2
  clear hb0
  have d1 : decide (s.size ≤ i) = false := by simpa using hi
  have d2 : decide ((i : Int) < 0) = false := by simp
  have hL : Hid (leads 1 (byt l 0)) := Lib.hid (by simp only [leads, lead, wide]; omega)
  have m0 := and_31 (a := byt l 0) (by omega) (by omega)
  by_cases hk : 1 < s.size - i
  · have hk' : decide ((s.size : Int) - (i : Int) < 2) = false := by simp; omega
    have hk2 : (2 : Int) ≤ (s.size : Int) - (i : Int) := by omega
    go_enter Tryz.func75, Tryz.ntmps75
    go_wp2
    go_loopg [6, 9] 1 (fun g2 c k wy => ∃ j : Nat, 1 ≤ j ∧ j + g2 = 2 ∧ k = .int .i64 j ∧ c = .int .i64 (acc l (byt l 0 - 192) j) ∧ Aside (contTo l j = true) ∧ w = wy)
    case atStart => exact ⟨1, by omega, by omega, rfl, rfl, Aside.intro rfl, rfl⟩
    case round =>
      obtain ⟨j, hj1, hjg, rfl, rfl, HC, rfl⟩ := hrel
      have hsm := acc_small (l := l) (c := byt l 0 - 192) (j := j) (by omega) (by omega) (by omega) HC.out
      have hsm1 := hsm.1
      have hsm2 := hsm.2
      clear hsm
      cases gk with
      | zero =>
        obtain rfl : j = 2 := by omega
        have hy := fun h => Lib.hid (dec_of (l := l) (k := 1) (c := acc l (byt l 0 - 192) 2) (by omega) (by rw [hlen.out]; exact hk) hL.out HC.out rfl h)
        have hnf := fun h => Lib.hid (dec_lead_none (l := l) (k := 1) (by omega) hL.out (decK_fair h))
        have hnf' : ¬ fair 1 (acc l (byt l 0 - 192) 2) → Hid (dec l = (0, 0)) := hnf
        clear hnf
        unfold fair at hy hnf'
        simp only [least] at hy hnf'
        generalize acc l (byt l 0 - 192) 2 = C at *
        clear HC m0
        by_cases f1 : 128 ≤ C
        · have g1 : decide (C < 128) = false := by simp; omega
          by_cases f2 : C ≤ 1114111
          · have g2 : decide (1114111 < C) = false := by simp; omega
            by_cases f3 : 55296 ≤ C
            · have g3 : decide (55296 ≤ C) = true := by simp; omega
              by_cases f4 : C < 57344
              · have g4 : decide (C < 57344) = true := by simp; omega
                have hn2 := hnf' (by rintro ⟨_, _, h⟩; simp [halfB] at h; omega)
                clear hy hnf'
                go_wp2
                go_ret2
                exact ret_pair' hn2.out.symm rfl rfl
              · have g4 : decide (C < 57344) = false := by simp; omega
                have hy2 := hy ⟨f1, f2, by simp [halfB]; omega⟩
                clear hy hnf'
                go_wp2
                go_ret2
                exact ret_pair' hy2.out.symm rfl rfl
            · have g3 : decide (55296 ≤ C) = false := by simp; omega
              have hy2 := hy ⟨f1, f2, by simp [halfB]; omega⟩
              clear hy hnf'
              go_wp2
              go_ret2
              exact ret_pair' hy2.out.symm rfl rfl
          · have g2 : decide (1114111 < C) = true := by simp; omega
            have hn2 := hnf' (by rintro ⟨_, h, _⟩; exact f2 h)
            clear hy hnf'
            go_wp2
            go_ret2
            exact ret_pair' hn2.out.symm rfl rfl
        · have g1 : decide (C < 128) = true := by simp; omega
          have hn2 := hnf' (by rintro ⟨h, _, _⟩; exact f1 h)
          clear hy hnf'
          go_wp2
          go_ret2
          exact ret_pair' hn2.out.symm rfl rfl
      | succ g2 =>
        have hjn : (j : Int) < 2 := by omega
        have hij : i + j < s.size := by omega
        have ej := EB.out j hij
        have hbj := byt_lt l j
        have hbj1 := hbj.1
        have hbj2 := hbj.2
        clear hbj
        have htl := and_tail hbj1 hbj2
        by_cases hc : contB (byt l j) = true
        · have m2 := htl.2 hc
          have hcc : 128 ≤ byt l j ∧ byt l j ≤ 191 := by simpa [contB] using hc
          have g1 : decide (byt l j < 128) = false := by simp; omega
          have g2' : decide (191 < byt l j) = false := by simp; omega
          have m3 := or_six (c := acc l (byt l 0 - 192) j) (d := byt l j - 128) (by omega) (by omega) (by omega) (by omega)
          have hs1 := Lib.hid (acc_succ (l := l) (c := byt l 0 - 192) hj1)
          have hs2 := Lib.hid (contTo_succ hj1 HC.out hc)
          clear htl hc hcc HC
          go_wp2
          go_roundg g2
          case measure => omega
          case rel => exact ⟨j + 1, by omega, by omega, by go_num, by rw [hs1.out], Aside.intro hs2.out, rfl⟩
        · have hn2 := Lib.hid (dec_lead_none (l := l) (k := 1) (by omega) hL.out (decK_cont hj1 (by omega) hc))
          have hcc : byt l j < 128 ∨ 191 < byt l j := by
            have : ¬ (128 ≤ byt l j ∧ byt l j ≤ 191) := by simpa [contB] using hc
            omega
          clear htl hc HC
          rcases hcc with hcc | hcc
          · go_wp2
            go_ret2
            exact ret_pair' hn2.out.symm rfl rfl
          · have g1 : decide (byt l j < 128) = false := by simp; omega
            go_wp2
            go_ret2
            exact ret_pair' hn2.out.symm rfl rfl
  · have hn2 := Lib.hid (dec_lead_none (l := l) (k := 1) (by omega) hL.out (decK_short (by rw [hlen.out]; exact hk)))
    have hk' : decide ((s.size : Int) - (i : Int) < 2) = true := by simp; omega
    go_enter Tryz.func75, Tryz.ntmps75
    go_wp2
    go_ret2
    exact ret_pair' hn2.out.symm rfl rfl
set_option maxRecDepth 100000 in
set_option maxHeartbeats 1000000 in
theorem rcode_2 (s : ByteArray) (i : Nat) (w : World) (hs : s.size ≤ 9000) (hi : i < s.size) (ha : 224 ≤ byt (s.data.toList.drop i) 0) (hb : byt (s.data.toList.drop i) 0 < 240) :
    Calls Tryz.prog 75 #[.string s, .int .i64 i] w fun e w' => e = .returned (.tuple #[.int .i64 (dec (s.data.toList.drop i)).1, .int .i64 (dec (s.data.toList.drop i)).2]) ∧ w = w' := by
  have hlen : Hid ((s.data.toList.drop i).length = s.size - i) := Lib.hid (by rw [List.length_drop, Lib.size_eq])
  have hb0 := byt_lt (s.data.toList.drop i) 0
  have e0 : (s[i].toNat : Int) = byt (s.data.toList.drop i) 0 := byt_drop s i 0 hi
  have eb := byt_drop s i
  generalize hl : s.data.toList.drop i = l at *
  clear hl
  have EB := Lib.hid eb
  clear eb
  have hb0' := hb0.1
  have hb0'' := hb0.2
  clear hb0
  have d1 : decide (s.size ≤ i) = false := by simpa using hi
  have d2 : decide ((i : Int) < 0) = false := by simp
  have hL : Hid (leads 2 (byt l 0)) := Lib.hid (by simp only [leads, lead, wide]; omega)
  have m0 := and_15 (a := byt l 0) (by omega) (by omega)
  by_cases hk : 2 < s.size - i
  · have hk' : decide ((s.size : Int) - (i : Int) < 3) = false := by simp; omega
    have hk2 : (3 : Int) ≤ (s.size : Int) - (i : Int) := by omega
    go_enter Tryz.func75, Tryz.ntmps75
    go_wp2
    go_loopg [6, 9] 2 (fun g2 c k wy => ∃ j : Nat, 1 ≤ j ∧ j + g2 = 3 ∧ k = .int .i64 j ∧ c = .int .i64 (acc l (byt l 0 - 224) j) ∧ Aside (contTo l j = true) ∧ w = wy)
    case atStart => exact ⟨1, by omega, by omega, rfl, rfl, Aside.intro rfl, rfl⟩
    case round =>
      obtain ⟨j, hj1, hjg, rfl, rfl, HC, rfl⟩ := hrel
      have hsm := acc_small (l := l) (c := byt l 0 - 224) (j := j) (by omega) (by omega) (by omega) HC.out
      have hsm1 := hsm.1
      have hsm2 := hsm.2
      clear hsm
      cases gk with
      | zero =>
        obtain rfl : j = 3 := by omega
        have hy := fun h => Lib.hid (dec_of (l := l) (k := 2) (c := acc l (byt l 0 - 224) 3) (by omega) (by rw [hlen.out]; exact hk) hL.out HC.out rfl h)
        have hnf := fun h => Lib.hid (dec_lead_none (l := l) (k := 2) (by omega) hL.out (decK_fair h))
        have hnf' : ¬ fair 2 (acc l (byt l 0 - 224) 3) → Hid (dec l = (0, 0)) := hnf
        clear hnf
        unfold fair at hy hnf'
        simp only [least] at hy hnf'
        generalize acc l (byt l 0 - 224) 3 = C at *
        clear HC m0
        by_cases f1 : 2048 ≤ C
        · have g1 : decide (C < 2048) = false := by simp; omega
          by_cases f2 : C ≤ 1114111
          · have g2 : decide (1114111 < C) = false := by simp; omega
            by_cases f3 : 55296 ≤ C
            · have g3 : decide (55296 ≤ C) = true := by simp; omega
              by_cases f4 : C < 57344
              · have g4 : decide (C < 57344) = true := by simp; omega
                have hn2 := hnf' (by rintro ⟨_, _, h⟩; simp [halfB] at h; omega)
                clear hy hnf'
                go_wp2
                go_ret2
                exact ret_pair' hn2.out.symm rfl rfl
              · have g4 : decide (C < 57344) = false := by simp; omega
                have hy2 := hy ⟨f1, f2, by simp [halfB]; omega⟩
                clear hy hnf'
                go_wp2
                go_ret2
                exact ret_pair' hy2.out.symm rfl rfl
            · have g3 : decide (55296 ≤ C) = false := by simp; omega
              have hy2 := hy ⟨f1, f2, by simp [halfB]; omega⟩
              clear hy hnf'
              go_wp2
              go_ret2
              exact ret_pair' hy2.out.symm rfl rfl
          · have g2 : decide (1114111 < C) = true := by simp; omega
            have hn2 := hnf' (by rintro ⟨_, h, _⟩; exact f2 h)
            clear hy hnf'
            go_wp2
            go_ret2
            exact ret_pair' hn2.out.symm rfl rfl
        · have g1 : decide (C < 2048) = true := by simp; omega
          have hn2 := hnf' (by rintro ⟨h, _, _⟩; exact f1 h)
          clear hy hnf'
          go_wp2
          go_ret2
          exact ret_pair' hn2.out.symm rfl rfl
      | succ g2 =>
        have hjn : (j : Int) < 3 := by omega
        have hij : i + j < s.size := by omega
        have ej := EB.out j hij
        have hbj := byt_lt l j
        have hbj1 := hbj.1
        have hbj2 := hbj.2
        clear hbj
        have htl := and_tail hbj1 hbj2
        by_cases hc : contB (byt l j) = true
        · have m2 := htl.2 hc
          have hcc : 128 ≤ byt l j ∧ byt l j ≤ 191 := by simpa [contB] using hc
          have g1 : decide (byt l j < 128) = false := by simp; omega
          have g2' : decide (191 < byt l j) = false := by simp; omega
          have m3 := or_six (c := acc l (byt l 0 - 224) j) (d := byt l j - 128) (by omega) (by omega) (by omega) (by omega)
          have hs1 := Lib.hid (acc_succ (l := l) (c := byt l 0 - 224) hj1)
          have hs2 := Lib.hid (contTo_succ hj1 HC.out hc)
          clear htl hc hcc HC
          go_wp2
          go_roundg g2
          case measure => omega
          case rel => exact ⟨j + 1, by omega, by omega, by go_num, by rw [hs1.out], Aside.intro hs2.out, rfl⟩
        · have hn2 := Lib.hid (dec_lead_none (l := l) (k := 2) (by omega) hL.out (decK_cont hj1 (by omega) hc))
          have hcc : byt l j < 128 ∨ 191 < byt l j := by
            have : ¬ (128 ≤ byt l j ∧ byt l j ≤ 191) := by simpa [contB] using hc
            omega
          clear htl hc HC
          rcases hcc with hcc | hcc
          · go_wp2
            go_ret2
            exact ret_pair' hn2.out.symm rfl rfl
          · have g1 : decide (byt l j < 128) = false := by simp; omega
            go_wp2
            go_ret2
            exact ret_pair' hn2.out.symm rfl rfl
  · have hn2 := Lib.hid (dec_lead_none (l := l) (k := 2) (by omega) hL.out (decK_short (by rw [hlen.out]; exact hk)))
    have hk' : decide ((s.size : Int) - (i : Int) < 3) = true := by simp; omega
    go_enter Tryz.func75, Tryz.ntmps75
    go_wp2
    go_ret2
    exact ret_pair' hn2.out.symm rfl rfl
set_option maxRecDepth 100000 in
set_option maxHeartbeats 1000000 in
theorem rcode_3 (s : ByteArray) (i : Nat) (w : World) (hs : s.size ≤ 9000) (hi : i < s.size) (ha : 240 ≤ byt (s.data.toList.drop i) 0) (hb : byt (s.data.toList.drop i) 0 < 245) :
    Calls Tryz.prog 75 #[.string s, .int .i64 i] w fun e w' => e = .returned (.tuple #[.int .i64 (dec (s.data.toList.drop i)).1, .int .i64 (dec (s.data.toList.drop i)).2]) ∧ w = w' := by
  have hlen : Hid ((s.data.toList.drop i).length = s.size - i) := Lib.hid (by rw [List.length_drop, Lib.size_eq])
  have hb0 := byt_lt (s.data.toList.drop i) 0
  have e0 : (s[i].toNat : Int) = byt (s.data.toList.drop i) 0 := byt_drop s i 0 hi
  have eb := byt_drop s i
  generalize hl : s.data.toList.drop i = l at *
  clear hl
  have EB := Lib.hid eb
  clear eb
  have hb0' := hb0.1
  have hb0'' := hb0.2
  clear hb0
  have d1 : decide (s.size ≤ i) = false := by simpa using hi
  have d2 : decide ((i : Int) < 0) = false := by simp
  have hL : Hid (leads 3 (byt l 0)) := Lib.hid (by simp only [leads, lead, wide]; omega)
  have m0 := and_7 (a := byt l 0) (by omega) (by omega)
  by_cases hk : 3 < s.size - i
  · have hk' : decide ((s.size : Int) - (i : Int) < 4) = false := by simp; omega
    have hk2 : (4 : Int) ≤ (s.size : Int) - (i : Int) := by omega
    go_enter Tryz.func75, Tryz.ntmps75
    go_wp2
    go_loopg [6, 9] 3 (fun g2 c k wy => ∃ j : Nat, 1 ≤ j ∧ j + g2 = 4 ∧ k = .int .i64 j ∧ c = .int .i64 (acc l (byt l 0 - 240) j) ∧ Aside (contTo l j = true) ∧ w = wy)
    case atStart => exact ⟨1, by omega, by omega, rfl, rfl, Aside.intro rfl, rfl⟩
    case round =>
      obtain ⟨j, hj1, hjg, rfl, rfl, HC, rfl⟩ := hrel
      have hsm := acc_small (l := l) (c := byt l 0 - 240) (j := j) (by omega) (by omega) (by omega) HC.out
      have hsm1 := hsm.1
      have hsm2 := hsm.2
      clear hsm
      cases gk with
      | zero =>
        obtain rfl : j = 4 := by omega
        have hy := fun h => Lib.hid (dec_of (l := l) (k := 3) (c := acc l (byt l 0 - 240) 4) (by omega) (by rw [hlen.out]; exact hk) hL.out HC.out rfl h)
        have hnf := fun h => Lib.hid (dec_lead_none (l := l) (k := 3) (by omega) hL.out (decK_fair h))
        have hnf' : ¬ fair 3 (acc l (byt l 0 - 240) 4) → Hid (dec l = (0, 0)) := hnf
        clear hnf
        unfold fair at hy hnf'
        simp only [least] at hy hnf'
        generalize acc l (byt l 0 - 240) 4 = C at *
        clear HC m0
        by_cases f1 : 65536 ≤ C
        · have g1 : decide (C < 65536) = false := by simp; omega
          by_cases f2 : C ≤ 1114111
          · have g2 : decide (1114111 < C) = false := by simp; omega
            by_cases f3 : 55296 ≤ C
            · have g3 : decide (55296 ≤ C) = true := by simp; omega
              by_cases f4 : C < 57344
              · have g4 : decide (C < 57344) = true := by simp; omega
                have hn2 := hnf' (by rintro ⟨_, _, h⟩; simp [halfB] at h; omega)
                clear hy hnf'
                go_wp2
                go_ret2
                exact ret_pair' hn2.out.symm rfl rfl
              · have g4 : decide (C < 57344) = false := by simp; omega
                have hy2 := hy ⟨f1, f2, by simp [halfB]; omega⟩
                clear hy hnf'
                go_wp2
                go_ret2
                exact ret_pair' hy2.out.symm rfl rfl
            · have g3 : decide (55296 ≤ C) = false := by simp; omega
              have hy2 := hy ⟨f1, f2, by simp [halfB]; omega⟩
              clear hy hnf'
              go_wp2
              go_ret2
              exact ret_pair' hy2.out.symm rfl rfl
          · have g2 : decide (1114111 < C) = true := by simp; omega
            have hn2 := hnf' (by rintro ⟨_, h, _⟩; exact f2 h)
            clear hy hnf'
            go_wp2
            go_ret2
            exact ret_pair' hn2.out.symm rfl rfl
        · have g1 : decide (C < 65536) = true := by simp; omega
          have hn2 := hnf' (by rintro ⟨h, _, _⟩; exact f1 h)
          clear hy hnf'
          go_wp2
          go_ret2
          exact ret_pair' hn2.out.symm rfl rfl
      | succ g2 =>
        have hjn : (j : Int) < 4 := by omega
        have hij : i + j < s.size := by omega
        have ej := EB.out j hij
        have hbj := byt_lt l j
        have hbj1 := hbj.1
        have hbj2 := hbj.2
        clear hbj
        have htl := and_tail hbj1 hbj2
        by_cases hc : contB (byt l j) = true
        · have m2 := htl.2 hc
          have hcc : 128 ≤ byt l j ∧ byt l j ≤ 191 := by simpa [contB] using hc
          have g1 : decide (byt l j < 128) = false := by simp; omega
          have g2' : decide (191 < byt l j) = false := by simp; omega
          have m3 := or_six (c := acc l (byt l 0 - 240) j) (d := byt l j - 128) (by omega) (by omega) (by omega) (by omega)
          have hs1 := Lib.hid (acc_succ (l := l) (c := byt l 0 - 240) hj1)
          have hs2 := Lib.hid (contTo_succ hj1 HC.out hc)
          clear htl hc hcc HC
          go_wp2
          go_roundg g2
          case measure => omega
          case rel => exact ⟨j + 1, by omega, by omega, by go_num, by rw [hs1.out], Aside.intro hs2.out, rfl⟩
        · have hn2 := Lib.hid (dec_lead_none (l := l) (k := 3) (by omega) hL.out (decK_cont hj1 (by omega) hc))
          have hcc : byt l j < 128 ∨ 191 < byt l j := by
            have : ¬ (128 ≤ byt l j ∧ byt l j ≤ 191) := by simpa [contB] using hc
            omega
          clear htl hc HC
          rcases hcc with hcc | hcc
          · go_wp2
            go_ret2
            exact ret_pair' hn2.out.symm rfl rfl
          · have g1 : decide (byt l j < 128) = false := by simp; omega
            go_wp2
            go_ret2
            exact ret_pair' hn2.out.symm rfl rfl
  · have hn2 := Lib.hid (dec_lead_none (l := l) (k := 3) (by omega) hL.out (decK_short (by rw [hlen.out]; exact hk)))
    have hk' : decide ((s.size : Int) - (i : Int) < 4) = true := by simp; omega
    go_enter Tryz.func75, Tryz.ntmps75
    go_wp2
    go_ret2
    exact ret_pair' hn2.out.symm rfl rfl
theorem rcode_in (s : ByteArray) (i : Nat) (w : World) (hs : s.size ≤ 9000) (hi : i < s.size) :
    Calls Tryz.prog 75 #[.string s, .int .i64 i] w fun e w' => e = .returned (.tuple #[.int .i64 (dec (s.data.toList.drop i)).1, .int .i64 (dec (s.data.toList.drop i)).2]) ∧ w = w' := by
  by_cases h0 : byt (s.data.toList.drop i) 0 < 128
  · exact rcode_0 s i w hs hi h0
  by_cases h1 : byt (s.data.toList.drop i) 0 < 194
  · exact rcode_lo s i w hs hi (by omega) h1
  by_cases h2 : byt (s.data.toList.drop i) 0 < 224
  · exact rcode_1 s i w hs hi (by omega) h2
  by_cases h3 : byt (s.data.toList.drop i) 0 < 240
  · exact rcode_2 s i w hs hi (by omega) h3
  by_cases h4 : byt (s.data.toList.drop i) 0 < 245
  · exact rcode_3 s i w hs hi (by omega) h4
  · exact rcode_hi s i w hs hi (by omega)
set_option maxRecDepth 100000 in
theorem rcode_any (s : ByteArray) (i : Int) (w : World) (hs : s.size ≤ 9000) :
    Calls Tryz.prog 75 #[.string s, .int .i64 i] w fun e w' => e = .returned (.tuple #[.int .i64 (codeAt s i).1, .int .i64 (codeAt s i).2]) ∧ w = w' := by
  by_cases h : 0 ≤ i ∧ i < s.size
  · obtain ⟨n, rfl⟩ := Int.eq_ofNat_of_zero_le h.1
    have e : codeAt s n = dec (s.data.toList.drop n) := by rw [codeAt, if_pos h]; rfl
    rw [e]
    exact rcode_in s n w hs (by omega)
  · have e : codeAt s i = (0, 0) := by rw [codeAt, if_neg h]
    rw [e]
    clear e
    by_cases h0 : i < 0
    · go_enter Tryz.func75, Tryz.ntmps75
      go_wp2
      go_ret2
      exact ⟨rfl, rfl⟩
    · have h1 : (s.size : Int) ≤ i := by omega
      clear h
      go_enter Tryz.func75, Tryz.ntmps75
      go_wp2
      go_ret2
      exact ⟨rfl, rfl⟩
end Go.Proofs.YtcfdfgbobnocnaaGreatDoor
