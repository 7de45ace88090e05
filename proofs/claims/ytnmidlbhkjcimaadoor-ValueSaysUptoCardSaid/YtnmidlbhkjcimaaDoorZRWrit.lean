/- The walk of the document's Written: what is asked of it, the simple kinds. (gen_rwrit.py wrote it.) -/
import Derived.Test.YtnmidlbhkjcimaaDoorVRDec
import Derived.Test.YtnmidlbhkjcimaaDoorVRVars2
import Derived.Test.YtnmidlbhkjcimaaDoorZCopy
import Derived.Test.YtnmidlbhkjcimaaDoorZVars
import Derived.Test.YtnmidlbhkjcimaaDoorZWrite
namespace Go.Proofs.YtnmidlbhkjcimaaDoor
open Go.RowKit

def RWritC (v : VT) : Prop := ∀ (c0 c1 c2 c3 c4 : Value) (w : World) (B : Nat), B ≤ w.heap.size → VAt w B v c0 c1 c2 c3 c4 → fitV nameB v = true → RngV v → sizeV v ≤ 9000 →
  Calls Tryd.prog 22 #[.agg #[c0, c1, c2, c3, c4]] w fun e w' => ∃ V, e = .returned V ∧ TR w.heap.size w' V (vtok v) ∧ Below w.heap.size w w'
theorem TR.lit1 (w : World) (base : Nat) (k : Int) (s : ByteArray) (hb : base ≤ w.heap.size) {g : Nat} (hg : g = w.heap.size) : TR base (w.alloc (.cells #[.int .i64 k, .string s] 41)) (.slice (some ⟨g, 0, none⟩) 1 1) [(k, s)] := by
  subst hg
  exact World.ownsRow_lit w #[.int .i64 k, .string s] 1 hb (by unfold maxLen; omega) rfl
theorem TR.lit2 (w : World) (base : Nat) (k k' : Int) (s s' : ByteArray) (hb : base ≤ w.heap.size) {g : Nat} (hg : g = w.heap.size) : TR base (w.alloc (.cells #[.int .i64 k, .string s, .int .i64 k', .string s'] 41)) (.slice (some ⟨g, 0, none⟩) 2 2) [(k, s), (k', s')] := by
  subst hg
  exact World.ownsRow_lit w #[.int .i64 k, .string s, .int .i64 k', .string s'] 2 hb (by unfold maxLen; omega) rfl
theorem TR.mono {base base' : Nat} {w : World} {V : Value} {ts : List (Int × ByteArray)} (h : TR base w V ts) (hb : base' ≤ base) : TR base' w V ts := own_mono h hb
theorem rword_any (s : ByteArray) (w : World) : Calls Tryd.prog 40 #[.string s] w fun e w' => e = .returned (.agg #[.int .i64 2, .string s]) ∧ Below w.heap.size w w' := by
  go_enter Tryd.func40, Tryd.ntmps40
  go_wp2_with fail
  exact ret_t1 rfl rfl rfl (heap_alloc_new _ _) ⟨rfl, (Below.refl _ _).alloc (Nat.le_refl _) _⟩
theorem rpunct_any (s : ByteArray) (w : World) : Calls Tryd.prog 42 #[.string s] w fun e w' => e = .returned (.agg #[.int .i64 1, .string s]) ∧ Below w.heap.size w w' := by
  go_enter Tryd.func42, Tryd.ntmps42
  go_wp2_with fail
  exact ret_t1 rfl rfl rfl (heap_alloc_new _ _) ⟨rfl, (Below.refl _ _).alloc (Nat.le_refl _) _⟩
theorem writ_said {w w2 : World} {o : Obj} {v : VT} {k : Int} {s : ByteArray} (hk : vtok v = [(k, s)]) (hK : KBx w o w2) {g : Nat} (hg : g = w2.heap.size) : ∃ V, Ending.returned (.slice (some ⟨g, 0, none⟩) 1 1) = .returned V ∧ TR w.heap.size (w2.alloc (.cells #[.int .i64 k, .string s] 41)) V (vtok v) ∧ Below w.heap.size w (w2.alloc (.cells #[.int .i64 k, .string s] 41)) :=
  ⟨_, rfl, by rw [hk]; exact TR.lit1 _ _ _ _ (by have := hK.up; omega) hg, (hK.next (alloc_same _ _)).low⟩
theorem writ_said2 {w w2 : World} {o : Obj} {v : VT} {k k' : Int} {s s' : ByteArray} (hk : vtok v = [(k, s), (k', s')]) (hK : KBx w o w2) {g : Nat} (hg : g = w2.heap.size) : ∃ V, Ending.returned (.slice (some ⟨g, 0, none⟩) 2 2) = .returned V ∧ TR w.heap.size (w2.alloc (.cells #[.int .i64 k, .string s, .int .i64 k', .string s'] 41)) V (vtok v) ∧ Below w.heap.size w (w2.alloc (.cells #[.int .i64 k, .string s, .int .i64 k', .string s'] 41)) :=
  ⟨_, rfl, by rw [hk]; exact TR.lit2 _ _ _ _ _ _ (by have := hK.up; omega) hg, (hK.next (alloc_same _ _)).low⟩
set_option maxRecDepth 100000 in
set_option maxHeartbeats 8000000 in
theorem rwrit_0 (n : Int) (s : ByteArray) (l : VL) (m : VM) : RWritC (.mk 0 n s l m) := by
  intro c0 c1 c2 c3 c4 w B hB hv hfit hrng hz
  have hs9 : s.size ≤ 9000 := by rw [sizeV] at hz; omega
  unfold RngV at hrng
  have hn := hrng.1
  unfold VAt at hv
  obtain ⟨rfl, rfl, rfl, _, ⟨A, c, rfl, hl, hL⟩, A', c', rfl, hm, hM⟩ := hv
  have K0 := Lib.hid (KBx.start w (.cells #[.int .i64 0, .int .i64 n, .string s, .slice A l.len c, .slice A' m.len c'] 25))
  obtain ⟨f0, f1, f2, f3, f4⟩ := K0.out.five
  have htk := Lib.hid (vtok0 n s l m)
  clear hL hM hB hfit hrng hz
  go_enter Tryd.func22, Tryd.ntmps22
  go_wp2_with fail
  refine (rword_any _ _).mono ?_
  rintro e w2 ⟨rfl, hb2⟩
  have K2 := Lib.hid (K0.out.next hb2)
  clear hb2 f0 f1 f2 f3 f4
  go_wp2_with fail
  go_ret
  exact writ_said htk.out K2.out rfl
set_option maxRecDepth 100000 in
set_option maxHeartbeats 8000000 in
theorem rwrit_5 (n : Int) (s : ByteArray) (l : VL) (m : VM) : RWritC (.mk 5 n s l m) := by
  intro c0 c1 c2 c3 c4 w B hB hv hfit hrng hz
  have hs9 : s.size ≤ 9000 := by rw [sizeV] at hz; omega
  unfold RngV at hrng
  have hn := hrng.1
  unfold VAt at hv
  obtain ⟨rfl, rfl, rfl, _, ⟨A, c, rfl, hl, hL⟩, A', c', rfl, hm, hM⟩ := hv
  have K0 := Lib.hid (KBx.start w (.cells #[.int .i64 5, .int .i64 n, .string s, .slice A l.len c, .slice A' m.len c'] 25))
  obtain ⟨f0, f1, f2, f3, f4⟩ := K0.out.five
  have htk := Lib.hid (vtok5 n s l m)
  clear hL hM hB hfit hrng hz
  go_enter Tryd.func22, Tryd.ntmps22
  go_wp2_with fail
  refine (rword_any _ _).mono ?_
  rintro e w2 ⟨rfl, hb2⟩
  have K2 := Lib.hid (K0.out.next hb2)
  clear hb2 f0 f1 f2 f3 f4
  go_wp2_with fail
  go_ret
  exact writ_said htk.out K2.out rfl
set_option maxRecDepth 100000 in
set_option maxHeartbeats 8000000 in
theorem rwrit_1 (n : Int) (s : ByteArray) (l : VL) (m : VM) : RWritC (.mk 1 n s l m) := by
  intro c0 c1 c2 c3 c4 w B hB hv hfit hrng hz
  have hs9 : s.size ≤ 9000 := by rw [sizeV] at hz; omega
  unfold RngV at hrng
  have hn := hrng.1
  unfold VAt at hv
  obtain ⟨rfl, rfl, rfl, _, ⟨A, c, rfl, hl, hL⟩, A', c', rfl, hm, hM⟩ := hv
  have K0 := Lib.hid (KBx.start w (.cells #[.int .i64 1, .int .i64 n, .string s, .slice A l.len c, .slice A' m.len c'] 25))
  obtain ⟨f0, f1, f2, f3, f4⟩ := K0.out.five
  have htk := Lib.hid (vtok1 n s l m)
  clear hL hM hB hfit hrng hz
  by_cases h1 : n = 1
  · subst h1
    have htk : Hid (vtok (.mk 1 1 s l m) = [(2, trueT)]) := Lib.hid (by rw [htk.out]; rfl)
    go_enter Tryd.func22, Tryd.ntmps22
    go_wp2_with fail
    refine (rword_any _ _).mono ?_
    rintro e w2 ⟨rfl, hb2⟩
    have K2 := Lib.hid (K0.out.next hb2)
    clear hb2 f0 f1 f2 f3 f4
    go_wp2_with fail
    go_ret
    exact writ_said htk.out K2.out rfl
  · have e1 : (n == 1) = false := by simpa using h1
    have htk : Hid (vtok (.mk 1 n s l m) = [(2, falseT)]) := Lib.hid (by rw [htk.out, if_neg h1])
    clear h1
    go_enter Tryd.func22, Tryd.ntmps22
    go_wp2_with fail
    refine (rword_any _ _).mono ?_
    rintro e w2 ⟨rfl, hb2⟩
    have K2 := Lib.hid (K0.out.next hb2)
    clear hb2 f0 f1 f2 f3 f4
    go_wp2_with fail
    go_ret
    exact writ_said htk.out K2.out rfl
set_option maxRecDepth 100000 in
set_option maxHeartbeats 8000000 in
theorem rwrit_2 (n : Int) (s : ByteArray) (l : VL) (m : VM) : RWritC (.mk 2 n s l m) := by
  intro c0 c1 c2 c3 c4 w B hB hv hfit hrng hz
  have hs9 : s.size ≤ 9000 := by rw [sizeV] at hz; omega
  unfold RngV at hrng
  have hn := hrng.1
  unfold VAt at hv
  obtain ⟨rfl, rfl, rfl, _, ⟨A, c, rfl, hl, hL⟩, A', c', rfl, hm, hM⟩ := hv
  have K0 := Lib.hid (KBx.start w (.cells #[.int .i64 2, .int .i64 n, .string s, .slice A l.len c, .slice A' m.len c'] 25))
  obtain ⟨f0, f1, f2, f3, f4⟩ := K0.out.five
  have htk := Lib.hid (vtok2 n s l m)
  clear hL hM hB hfit hrng hz
  have CD := fun wx => Lib.hid (rdecimal_any n wx hn.1 hn.2)
  clear hn
  go_enter Tryd.func22, Tryd.ntmps22
  go_wp2_with fail
  refine ((CD _).out).mono ?_
  rintro e w2 ⟨rfl, hb2⟩
  have K2 := Lib.hid (K0.out.next hb2)
  clear hb2 f0 f1 f2 f3 f4
  go_wp2_with fail
  go_ret
  exact writ_said htk.out K2.out rfl
set_option maxRecDepth 100000 in
set_option maxHeartbeats 8000000 in
theorem rwrit_4 (n : Int) (s : ByteArray) (l : VL) (m : VM) : RWritC (.mk 4 n s l m) := by
  intro c0 c1 c2 c3 c4 w B hB hv hfit hrng hz
  have hs9 : s.size ≤ 9000 := by rw [sizeV] at hz; omega
  unfold RngV at hrng
  have hn := hrng.1
  unfold VAt at hv
  obtain ⟨rfl, rfl, rfl, _, ⟨A, c, rfl, hl, hL⟩, A', c', rfl, hm, hM⟩ := hv
  have K0 := Lib.hid (KBx.start w (.cells #[.int .i64 4, .int .i64 n, .string s, .slice A l.len c, .slice A' m.len c'] 25))
  obtain ⟨f0, f1, f2, f3, f4⟩ := K0.out.five
  have htk := Lib.hid (vtok4 n s l m)
  clear hL hM hB hfit hrng hz
  go_enter Tryd.func22, Tryd.ntmps22
  go_wp2_with fail
  go_ret
  exact writ_said htk.out K0.out (by simp)
end Go.Proofs.YtnmidlbhkjcimaaDoor
/- The walk of the document's Written: numbers and variables. (gen_rwrit.py wrote it.) -/
namespace Go.Proofs.YtnmidlbhkjcimaaDoor
open Go.RowKit

theorem KBx.both {w W : World} {c0 c1 c3 c4 : Value} {s : Value} (h : KBx w (.cells #[c0, c1, s, c3, c4] 25) W) : W.cell? ⟨w.heap.size, 2, none⟩ = some s ∧ KBx w (.cells #[c0, c1, s, c3, c4] 25) W := ⟨h.five.2.2.1, h⟩
set_option maxRecDepth 100000 in
set_option maxHeartbeats 8000000 in
theorem rwrit_3 (n : Int) (s : ByteArray) (l : VL) (m : VM) : RWritC (.mk 3 n s l m) := by
  intro c0 c1 c2 c3 c4 w B hB hv hfit hrng hz
  have hs9 : s.size ≤ 9000 := by rw [sizeV] at hz; omega
  unfold RngV at hrng
  have hn := hrng.1
  unfold VAt at hv
  obtain ⟨rfl, rfl, rfl, _, ⟨A, c, rfl, hl, hL⟩, A', c', rfl, hm, hM⟩ := hv
  have K0 := Lib.hid (KBx.start w (.cells #[.int .i64 3, .int .i64 n, .string s, .slice A l.len c, .slice A' m.len c'] 25))
  obtain ⟨f0, f1, f2, f3, f4⟩ := K0.out.five
  have htk := Lib.hid (vtok3 n s l m)
  have hN := fun wx => rnumber_any s wx hs9
  obtain ⟨k, hk⟩ : ∃ k, kindL s.data.toList = k := ⟨_, rfl⟩
  have htk : Hid (vtok (.mk 3 n s l m) = [(k, s)]) := Lib.hid (by rw [htk.out, hk])
  rw [hk] at hN
  have HN := fun wx => Lib.hid (hN wx)
  obtain ⟨ob, hob⟩ : ∃ ob, ob = (.cells #[.int .i64 3, .int .i64 n, .string s, .slice A l.len c, .slice A' m.len c'] 25 : Obj) := ⟨_, rfl⟩
  clear hL hM hB hfit hrng hz hN hk hob
  go_enter Tryd.func22, Tryd.ntmps22
  go_wp2_with fail
  go_region_held3 (fun W => W.cell? ⟨w.heap.size, 2, none⟩ = some (.string s) ∧ KBx w (.cells #[.int .i64 3, .int .i64 n, .string s, .slice A l.len c, .slice A' m.len c'] 25) W)
    (first
      | exact (K0.out.next (Below.drew (Below.refl _ _))).both
      | exact ((by assumption : _ ∧ KBx w _ _).2.next (alloc_same _ _)).both
      | go_keep)
    ((first
      | (go_at_call 25; refine (HN _).out.mono ?_; rintro e w2 ⟨rfl, rfl⟩)))
  all_goals
    go_wp2_with fail
    go_ret
    exact writ_said htk.out (K0.out.next (Below.drew (Below.refl _ _))) (by simp)
set_option maxRecDepth 100000 in
set_option maxHeartbeats 8000000 in
theorem rwrit_8 (n : Int) (s : ByteArray) (l : VL) (m : VM) : RWritC (.mk 8 n s l m) := by
  intro c0 c1 c2 c3 c4 w B hB hv hfit hrng hz
  have hs9 : s.size ≤ 9000 := by rw [sizeV] at hz; omega
  unfold RngV at hrng
  have hn := hrng.1
  unfold VAt at hv
  obtain ⟨rfl, rfl, rfl, _, ⟨A, c, rfl, hl, hL⟩, A', c', rfl, hm, hM⟩ := hv
  have K0 := Lib.hid (KBx.start w (.cells #[.int .i64 8, .int .i64 n, .string s, .slice A l.len c, .slice A' m.len c'] 25))
  obtain ⟨f0, f1, f2, f3, f4⟩ := K0.out.five
  have htk := Lib.hid (vtok8 n s l m)
  clear hL hM hB hfit hrng hz
  go_enter Tryd.func22, Tryd.ntmps22
  go_wp2_with fail
  go_region_held3 (fun W => W.cell? ⟨w.heap.size, 2, none⟩ = some (.string s) ∧ KBx w (.cells #[.int .i64 8, .int .i64 n, .string s, .slice A l.len c, .slice A' m.len c'] 25) W)
    (first
      | exact (K0.out.next (Below.drew (Below.refl _ _))).both
      | exact ((by assumption : _ ∧ KBx w _ _).2.next (alloc_same _ _)).both
      | exact ((by assumption : _ ∧ KBx w _ _).2.next (by assumption)).both
      | go_keep)
    ((first
      | (go_at_call 42; refine (rpunct_any _ _).mono ?_; rintro e wp ⟨rfl, hbp⟩)
      | (go_at_call 40; refine (rword_any _ _).mono ?_; rintro e ww ⟨rfl, hbw⟩)))
  all_goals
    have K5 : Hid (KBx w (.cells #[.int .i64 8, .int .i64 n, .string s, .slice A l.len c, .slice A' m.len c'] 25) _) := Lib.hid (by first | exact (K0.out.next (undrew hbp)).next hbw | exact (K0.out.next (undrew hbw)).next hbp)
    clear hbp hbw
    go_wp2_with fail
    go_ret
    exact writ_said2 htk.out K5.out rfl
end Go.Proofs.YtnmidlbhkjcimaaDoor
/- The walk of the document's Written: lists. (gen_rwrit.py wrote it.) -/
namespace Go.Proofs.YtnmidlbhkjcimaaDoor
open Go.RowKit

theorem vtok_pos {v : VT} (h : fitV nameB v = true) : 0 < (vtok v).length := by
  obtain ⟨k, n, s, l, m⟩ := v
  rw [fitV, Bool.and_eq_true, Bool.and_eq_true] at h
  rcases sound_kind h.1.1 with rfl | rfl | rfl | rfl | rfl | rfl | rfl | rfl | rfl
  · rw [vtok0]; decide
  · rw [vtok1]; simp
  · rw [vtok2]; simp
  · rw [vtok3]; simp
  · rw [vtok4]; simp
  · rw [vtok5]; simp
  · rw [vtok6]; simp
  · rw [vtok7]; simp
  · rw [vtok8]; simp
set_option maxRecDepth 100000 in
set_option maxHeartbeats 8000000 in
theorem rwrit_6 (N : Nat) (H : ∀ u, sizeV u ≤ N → RWritC u) (n : Int) (s : ByteArray) (l : VL) (m : VM) (hN : sizeV (.mk 6 n s l m) ≤ N + 1) : RWritC (.mk 6 n s l m) := by
  intro c0 c1 c2 c3 c4 w B hB hv hfit hrng hz
  have hN' : sizeL l ≤ N := by rw [sizeV] at hN; omega
  have hz' : sizeL l ≤ 9000 := by rw [sizeV] at hz; omega
  rw [fitV, Bool.and_eq_true, Bool.and_eq_true] at hfit
  unfold RngV at hrng
  have hff := Lib.hid hfit.1.2
  have hrr := Lib.hid hrng.2.1
  unfold VAt at hv
  obtain ⟨rfl, rfl, rfl, _, ⟨A, c, rfl, hl, hL⟩, A', c', rfl, hm, hM⟩ := hv
  have HB := Lib.hid hB
  have HH := Lib.hid H
  have HL := Lib.hid hL
  have HN := Lib.hid hN'
  have HZ := Lib.hid hz'
  have K0 := Lib.hid (KBx.start w (.cells #[.int .i64 6, .int .i64 n, .string s, .slice A l.len c, .slice A' m.len c'] 25))
  have htk := Lib.hid (vtok6 n s l m)
  obtain ⟨f0, f1, f2, f3, f4⟩ := K0.out.five
  clear hB hfit hrng hz hN hL hM H hN' hz'
  go_enter Tryd.func22, Tryd.ntmps22
  go_wp2_with fail
  refine (rpunct_any _ _).mono ?_
  rintro e w2 ⟨rfl, hb2⟩
  have K2 := Lib.hid ((K0.out.next hb2).next (alloc_same w2 (.cells #[.int .i64 1, .string openT] 41)))
  have T2 := Lib.hid (TR.lit1 w2 (w.heap.size + 1) 1 openT (K0.out.next hb2).up rfl)
  clear hb2 f0 f1 f2 f3 f4 K0
  obtain ⟨f0, f1, f2, f3, f4⟩ := K2.out.five
  go_wp2_with fail
  clear f0 f1 f2 f3 f4
  go_loopg [3, 4] l.len (fun g vq i wx => ∃ q : Nat, q + g = l.len ∧ i = .int .i64 q ∧ Aside (KBx w (.cells #[.int .i64 6, .int .i64 n, .string s, .slice A l.len c, .slice A' m.len c'] 25) wx ∧ TR (w.heap.size + 1) wx vq ((1, openT) :: vtokL (l.take q))))
  case atStart => exact ⟨0, by omega, rfl, vaside ⟨K2.out, by rw [VL.take_zero, vtokL]; exact T2.out⟩⟩
  case round =>
    obtain ⟨q, hq, rfl, HA⟩ := hrel
    rename_i vq _
    have KX := Lib.hid HA.out.1
    have TX := Lib.hid HA.out.2
    clear HA K2 T2
    obtain ⟨f0, f1, f2, f3, f4⟩ := KX.out.five
    have hup := KX.out.up
    cases gk with
    | zero =>
      obtain rfl : q = l.len := by omega
      have hT2 := TX.out
      rw [VL.take_all] at hT2
      have HT2 := Lib.hid hT2
      have hll := Lib.hid (vtokL_len l)
      clear hT2 TX
      go_wp2_with fail
      refine (rpunct_any _ _).mono ?_
      rintro e w6 ⟨rfl, hb6⟩
      have K6 := Lib.hid ((KX.out.next hb6).next (alloc_same w6 (.cells #[.int .i64 1, .string shutT] 41)))
      have T6 := Lib.hid ((HT2.out.low hb6).low (alloc_same w6 (.cells #[.int .i64 1, .string shutT] 41)))
      clear hb6 HT2 KX f0 f1 f2 f3 f4
      go_wp2_with (at_builtin; refine wpList_append_tok rfl _ _ rfl (w.heap.size + 1) _ _ rfl T6.out _ _ _ [(1, shutT)] rfl rfl (tok_new1 _ _ _ _ (by first | rfl | (simp; done))) (by omega) (by have h1 := HZ.out; have h2 := hll.out; simp only [List.length_cons]; omega) (K6.out.up) ?_; intro v7 w7 h7 g7; have H7 := Lib.hid h7; have K7 := Lib.hid (K6.out.row g7.1 (fun k hk => (T6.out.lt k hk).1)); clear h7 g7)
      go_ret
      exact ⟨v7, rfl, by rw [htk.out]; have := H7.out; exact TR.mono (by simpa using this) (Nat.le_succ _), K7.out.low⟩
    | succ g =>
      have hqn : q < l.len := by omega
      have hqn' : (q : Int) < (l.len : Int) := by omega
      obtain ⟨x, hx⟩ := VL.get_lt hqn
      have hxs := sizeL_get hx
      have hxf := fitL_get hff.out hx
      have hxr := rngL_get hrr.out hx
      have hrm := roomL hx
      have hnx := Lib.hid (VL.take_next hx)
      obtain ⟨b, o, d0, d1, d2, d3, d4, hA, hblt, hF, hV⟩ := LAt.at HL.out hx
      subst hA
      rw [Nat.zero_add] at hF
      have hroom : Hid (((1, openT) :: vtokL (l.take q)).length + 2 + 4 * sizeV x ≤ 200000) := Lib.hid (by have := HZ.out; simp only [List.length_cons]; omega)
      have hvl := vtok_len x
      have hne := Lib.hid (vtok_pos hxf)
      have hlow := KX.out.low.mono HB.out
      obtain ⟨e0, e1, e2, e3, e4⟩ := hF.below hlow hblt
      have C := Lib.hid (HH.out x (by have := HN.out; omega) d0 d1 d2 d3 d4 _ B (Nat.le_trans HB.out KX.out.low.size) (VAt.below hlow _ _ _ _ _ _ hV) hxf hxr (by have := HZ.out; omega))
      obtain ⟨xk, xn, xs, xl, xm⟩ := x
      unfold VAt at hV
      obtain ⟨rfl, rfl, rfl, _, ⟨A3, c3', rfl, _, _⟩, A4, c4', rfl, _, _⟩ := hV
      generalize VT.mk xk xn xs xl xm = x at *
      clear hxs hxf hxr hrm hx hF hlow
      go_wp2_with fail
      refine C.out.mono ?_
      rintro e w6 ⟨VX, rfl, hX, hb6⟩
      obtain ⟨gx, cx, rfl, hgx, hltx, hcx⟩ := hX.at (fun e => by have := hne.out; rw [e] at this; exact absurd this (by decide))
      have K6 := Lib.hid (KX.out.next hb6)
      have T6 := Lib.hid (TX.out.low hb6)
      have hcx' := Lib.hid hcx
      clear hb6 hX C e0 e1 e2 e3 e4 f0 f1 f2 f3 f4 hcx KX TX
      go_wp2_with (at_builtin; refine wpList_append_tok rfl _ _ rfl (w.heap.size + 1) _ _ rfl T6.out _ _ _ (vtok x) rfl rfl (fun j u hu => by rw [add_at, Nat.zero_add]; exact hcx'.out j u hu) hne.out (by have := hroom.out; omega) (K6.out.up) ?_; intro v7 w7 h7 g7; have H7 := Lib.hid h7; have K7 := Lib.hid (K6.out.row g7.1 (fun k hk => (T6.out.lt k hk).1)); clear h7 g7)
      go_roundg g
      case measure => omega
      case rel => exact ⟨q + 1, by omega, by go_num, vaside ⟨K7.out, by rw [hnx.out, vtokL_snoc]; have := H7.out; simpa using this⟩⟩
end Go.Proofs.YtnmidlbhkjcimaaDoor
/- The walk of the document's Written: maps. (gen_rwrit.py wrote it.) -/
namespace Go.Proofs.YtnmidlbhkjcimaaDoor
open Go.RowKit

theorem kw_of {w W : World} {ob : Obj} {n : Nat} {p0 p1 p2 p3 p4 p5 p6 : Prop} (h : p0 ∧ p1 ∧ p2 ∧ p3 ∧ p4 ∧ p5 ∧ p6 ∧ KBx w ob W ∧ n ≤ W.heap.size) : KBx w ob W ∧ n ≤ W.heap.size := h.2.2.2.2.2.2.2
theorem kw_next {w W W' : World} {ob : Obj} {n : Nat} (h : KBx w ob W ∧ n ≤ W.heap.size) (hb : Below W.heap.size W W') : KBx w ob W' ∧ n ≤ W'.heap.size := ⟨h.1.next hb, Nat.le_trans h.2 hb.size⟩
theorem kw_row {w W W' W0 : World} {ob : Obj} {n : Nat} {V V' : Value} {ts : List (Int × ByteArray)} (h : KBx w ob W ∧ n ≤ W.heap.size) (g : Grew W W' V V') (hT : TR (w.heap.size + 1) W0 V ts) : KBx w ob W' ∧ n ≤ W'.heap.size := ⟨h.1.row g.1 (fun k hk => (hT.lt k hk).1), Nat.le_trans h.2 g.1.size⟩
theorem vown_lt {base : Nat} {w : World} {V : Value} {ts : List (Int × ByteArray)} (h : TR base w V ts) : ∀ k, V.ownBlock = some k → k < w.heap.size := fun k hk => (h.lt k hk).2
theorem tr_kept {n : Nat} {W W' : World} {V V' X : Value} {us : List (Int × ByteArray)} (h : TR n W X us) (g : Grew W W' V V') (hV : ∀ k, V.ownBlock = some k → k < n) : TR n W' X us := by
  refine World.ownsRow.kept h g.1 ?_
  cases hx : X.ownBlock with
  | none => exact .inl rfl
  | some k =>
    refine .inr (fun e => ?_)
    have := hV k e.symm
    have := (h.lt k hx).1
    omega
theorem tr_cells {n : Nat} {W : World} {g m c : Nat} {us : List (Int × ByteArray)} (h : TR n W (.slice (some ⟨g, 0, none⟩) m c) us) : ∀ (j : Nat) u, (cellsT us)[j]? = some u → W.cell? ((⟨g, 0, none⟩ : Addr).add j) = some u := by
  intro j u hu
  have hn : us ≠ [] := by intro e; subst e; simp [cellsT] at hu
  obtain ⟨g', c', e, _, _, hc⟩ := h.at hn
  injection e with e
  injection e with e
  injection e with e
  subst e
  rw [add_at, Nat.zero_add]
  exact hc j u hu
set_option maxRecDepth 100000 in
set_option maxHeartbeats 8000000 in
theorem rwrit_7 (N : Nat) (H : ∀ u, sizeV u ≤ N → RWritC u) (n : Int) (s : ByteArray) (l : VL) (m : VM) (hN : sizeV (.mk 7 n s l m) ≤ N + 1) : RWritC (.mk 7 n s l m) := by
  intro c0 c1 c2 c3 c4 w B hB hv hfit hrng hz
  have hN' : sizeM m ≤ N := by rw [sizeV] at hN; omega
  have hz' : sizeM m ≤ 9000 := by rw [sizeV] at hz; omega
  rw [fitV, Bool.and_eq_true, Bool.and_eq_true] at hfit
  unfold RngV at hrng
  have hff := Lib.hid hfit.2
  have hrr := Lib.hid hrng.2.2
  unfold VAt at hv
  obtain ⟨rfl, rfl, rfl, _, ⟨A, c, rfl, hl, hL⟩, A', c', rfl, hm, hM⟩ := hv
  have HB := Lib.hid hB
  have HH := Lib.hid H
  have HL := Lib.hid hM
  have HN := Lib.hid hN'
  have HZ := Lib.hid hz'
  have K0 := Lib.hid (KBx.start w (.cells #[.int .i64 7, .int .i64 n, .string s, .slice A l.len c, .slice A' m.len c'] 25))
  have htk := Lib.hid (vtok7 n s l m)
  obtain ⟨f0, f1, f2, f3, f4⟩ := K0.out.five
  clear hB hfit hrng hz hN hL hM H hN' hz'
  go_enter Tryd.func22, Tryd.ntmps22
  go_wp2_with fail
  refine (rpunct_any _ _).mono ?_
  rintro e w2 ⟨rfl, hb2⟩
  have K2 := Lib.hid ((K0.out.next hb2).next (alloc_same w2 (.cells #[.int .i64 1, .string openM] 41)))
  have T2 := Lib.hid (TR.lit1 w2 (w.heap.size + 1) 1 openM (K0.out.next hb2).up rfl)
  clear hb2 f0 f1 f2 f3 f4 K0
  obtain ⟨f0, f1, f2, f3, f4⟩ := K2.out.five
  go_wp2_with fail
  clear f0 f1 f2 f3 f4
  go_loopg [5, 6] m.len (fun g vq i wx => ∃ q : Nat, q + g = m.len ∧ i = .int .i64 q ∧ Aside (KBx w (.cells #[.int .i64 7, .int .i64 n, .string s, .slice A l.len c, .slice A' m.len c'] 25) wx ∧ TR (w.heap.size + 1) wx vq ((1, openM) :: vtokM (m.take q))))
  case atStart => exact ⟨0, by omega, rfl, vaside ⟨K2.out, by rw [VM.take_zero, vtokM]; exact T2.out⟩⟩
  case round =>
    obtain ⟨q, hq, rfl, HA⟩ := hrel
    rename_i vq _
    have KX := Lib.hid HA.out.1
    have TX := Lib.hid HA.out.2
    clear HA K2 T2
    obtain ⟨f0, f1, f2, f3, f4⟩ := KX.out.five
    have hup := KX.out.up
    cases gk with
    | zero =>
      obtain rfl : q = m.len := by omega
      have hT2 := TX.out
      rw [VM.take_all] at hT2
      have HT2 := Lib.hid hT2
      have hll := Lib.hid (vtokM_len m)
      clear hT2 TX
      go_wp2_with fail
      refine (rpunct_any _ _).mono ?_
      rintro e w6 ⟨rfl, hb6⟩
      have K6 := Lib.hid ((KX.out.next hb6).next (alloc_same w6 (.cells #[.int .i64 1, .string shutM] 41)))
      have T6 := Lib.hid ((HT2.out.low hb6).low (alloc_same w6 (.cells #[.int .i64 1, .string shutM] 41)))
      clear hb6 HT2 KX f0 f1 f2 f3 f4
      go_wp2_with (at_builtin; refine wpList_append_tok rfl _ _ rfl (w.heap.size + 1) _ _ rfl T6.out _ _ _ [(1, shutM)] rfl rfl (tok_new1 _ _ _ _ (by first | rfl | (simp; done))) (by omega) (by have h1 := HZ.out; have h2 := hll.out; simp only [List.length_cons]; omega) (K6.out.up) ?_; intro v7 w7 h7 g7; have H7 := Lib.hid h7; have K7 := Lib.hid (K6.out.row g7.1 (fun k hk => (T6.out.lt k hk).1)); clear h7 g7)
      go_ret
      exact ⟨v7, rfl, by rw [htk.out]; have := H7.out; exact TR.mono (by simpa using this) (Nat.le_succ _), K7.out.low⟩
    | succ g =>
      have hqn : q < m.len := by omega
      have hqn' : (q : Int) < (m.len : Int) := by omega
      obtain ⟨⟨nm, x⟩, hx⟩ := VM.get_lt hqn
      have hxs := (name_size hx).2
      have hxf := fitM_get hff.out hx
      have hxr := rngM_get hrr.out hx
      have hrm := roomM hx
      have hnx := Lib.hid (VM.take_next hx)
      obtain ⟨b, o, d0, d1, d2, d3, d4, hA, hblt, hnm, _, hF, hV⟩ := MAt.at HL.out hx
      subst hA
      rw [Nat.zero_add] at hF hnm
      have hroom : Hid (((1, openM) :: vtokM (m.take q)).length + 2 + 4 * sizeV x ≤ 200000) := Lib.hid (by have := HZ.out; simp only [List.length_cons]; omega)
      have hvl := vtok_len x
      have hne := Lib.hid (vtok_pos hxf)
      have hlow := KX.out.low.mono HB.out
      have HF0 := Lib.hid (And.intro hnm hF)
      have C := Lib.hid (fun (W : World) (K : KBx w (.cells #[.int .i64 7, .int .i64 n, .string s, .slice A l.len c, .slice (some ⟨b, o, none⟩) m.len c'] 25) W ∧ wr.heap.size ≤ W.heap.size) => HH.out x (by have := HN.out; omega) d0 d1 d2 d3 d4 W B (Nat.le_trans HB.out K.1.low.size) (VAt.below (K.1.low.mono HB.out) _ _ _ _ _ _ hV) hxf hxr (by have := HZ.out; omega))
      have S := Lib.hid (fun (W : World) (K : KBx w (.cells #[.int .i64 7, .int .i64 n, .string s, .slice A l.len c, .slice (some ⟨b, o, none⟩) m.len c'] 25) W ∧ wr.heap.size ≤ W.heap.size) => show W.cell? ⟨w.heap.size, 4, none⟩ = some (.slice (some ⟨b, o, none⟩) m.len c') ∧ W.cell? ⟨b, o + q * 6, none⟩ = some (.string nm) ∧ W.cell? ⟨b, o + q * 6 + 1, none⟩ = some d0 ∧ W.cell? ⟨b, o + q * 6 + 1 + 1, none⟩ = some d1 ∧ W.cell? ⟨b, o + q * 6 + 1 + 2, none⟩ = some d2 ∧ W.cell? ⟨b, o + q * 6 + 1 + 3, none⟩ = some d3 ∧ W.cell? ⟨b, o + q * 6 + 1 + 4, none⟩ = some d4 ∧ KBx w (.cells #[.int .i64 7, .int .i64 n, .string s, .slice A l.len c, .slice (some ⟨b, o, none⟩) m.len c'] 25) W ∧ wr.heap.size ≤ W.heap.size from by
        obtain ⟨e0, e1, e2, e3, e4⟩ := hF.below (K.1.low.mono HB.out) hblt
        exact ⟨K.1.five.2.2.2.2, ((K.1.low.mono HB.out).cell (p := ⟨b, o + q * 6, none⟩) hblt).trans hnm, e0, e1, e2, e3, e4, K⟩)
      obtain ⟨xk, xn, xs, xl, xm⟩ := x
      unfold VAt at hV
      obtain ⟨rfl, rfl, rfl, _, ⟨A3, c3', rfl, _, _⟩, A4, c4', rfl, _, _⟩ := hV
      generalize VT.mk xk xn xs xl xm = x at *
      clear hxs hxf hxr hrm hx hF hlow hnm HF0
      go_wp2_with fail
      go_region_held3 (fun W => W.cell? ⟨w.heap.size, 4, none⟩ = some (.slice (some ⟨b, o, none⟩) m.len c') ∧ W.cell? ⟨b, o + q * 6, none⟩ = some (.string nm) ∧ W.cell? ⟨b, o + q * 6 + 1, none⟩ = some (.int .i64 xk) ∧ W.cell? ⟨b, o + q * 6 + 1 + 1, none⟩ = some (.int .i64 xn) ∧ W.cell? ⟨b, o + q * 6 + 1 + 2, none⟩ = some (.string xs) ∧ W.cell? ⟨b, o + q * 6 + 1 + 3, none⟩ = some (.slice A3 xl.len c3') ∧ W.cell? ⟨b, o + q * 6 + 1 + 4, none⟩ = some (.slice A4 xm.len c4') ∧ KBx w (.cells #[.int .i64 7, .int .i64 n, .string s, .slice A l.len c, .slice (some ⟨b, o, none⟩) m.len c'] 25) W ∧ wr.heap.size ≤ W.heap.size)
        (first
          | exact S.out _ ⟨KX.out.next (Below.drew (Below.refl _ _)), Nat.le_refl _⟩
          | exact S.out _ (kw_next (kw_of (by assumption)) (by assumption))
          | exact S.out _ (kw_next (kw_of (by assumption)) (alloc_same _ _))
          | exact S.out _ (kw_row (kw_of (by assumption)) g5 TX.out)
          | exact S.out _ (kw_row (kw_of (by assumption)) g7 h5)
          | go_keep)
        ((first
          | (go_at_call 42; refine (rpunct_any _ _).mono ?_; rintro e wp ⟨rfl, hbp⟩)
          | (go_at_call 40; refine (rword_any _ _).mono ?_; rintro e ww ⟨rfl, hbw⟩)
          | (go_at_call 22; have hsx := (kw_of (by assumption)).2; refine (C.out _ (kw_of (by assumption))).mono ?_; rintro e wx ⟨VX, rfl, hX0, hbx⟩; obtain ⟨gx, cx, rfl, hgx, hltx, hcx⟩ := hX0.at (fun e => by have := hne.out; rw [e] at this; exact absurd this (by decide)); have hX := TR.mono hX0 hsx; clear hX0 hcx)
          | (refine step_append_tok (by rfl) _ _ (by rfl) (w.heap.size + 1) _ _ (by rfl) (by first | exact (((TX.out.low (undrew hbp)).low hbw).low (alloc_same _ _)) | exact (((TX.out.low (undrew hbw)).low hbp).low (alloc_same _ _)) | exact ((((TX.out.low (undrew hbp)).low hbw).low hbx).low (alloc_same _ _)) | exact ((((TX.out.low (undrew hbp)).low hbx).low hbw).low (alloc_same _ _)) | exact ((((TX.out.low (undrew hbx)).low hbp).low hbw).low (alloc_same _ _)) | exact ((((TX.out.low (undrew hbw)).low hbx).low hbp).low (alloc_same _ _)) | exact ((((TX.out.low (undrew hbw)).low hbp).low hbx).low (alloc_same _ _)) | exact ((((TX.out.low (undrew hbx)).low hbw).low hbp).low (alloc_same _ _)) | exact ((((TX.out.low (undrew hbp)).low hbw).low (alloc_same _ _)).low hbx) | exact ((((TX.out.low (undrew hbw)).low hbp).low (alloc_same _ _)).low hbx)) _ 2 2 [(2, nm), (1, colonT)] (by rfl) (by rfl) (by first | exact tok_new2 _ _ _ _ _ _ rfl | exact (fun j u hu => (hbx.cell (p := ⟨_, _, none⟩) (by rw [add_at]; simp)).trans (tok_new2 _ _ _ _ _ _ rfl j u hu))) (by omega) (by have := hroom.out; omega) ((kw_of (by assumption)).1.up) ?_; intro v5 w5 h5 g5)
          | (refine step_append_tok (by rfl) _ _ (by rfl) (w.heap.size + 1) _ _ (by rfl) (by first | exact h5 | exact h5.low hbx) _ _ _ (vtok x) (by rfl) (by rfl) (tr_cells (by first | exact hX | exact (tr_kept (hX.low (alloc_same _ _)) g5 (vown_lt TX.out)) | exact (tr_kept ((hX.low hbw).low (alloc_same _ _)) g5 (vown_lt TX.out)) | exact (tr_kept (((hX.low hbp).low hbw).low (alloc_same _ _)) g5 (vown_lt TX.out)) | exact (tr_kept ((hX.low hbp).low (alloc_same _ _)) g5 (vown_lt TX.out)) | exact (tr_kept (hX.low (alloc_same _ _)) g5 (vown_lt TX.out)) | exact (tr_kept (((hX.low hbw).low hbp).low (alloc_same _ _)) g5 (vown_lt TX.out)) | exact (tr_kept hX g5 (vown_lt TX.out)) | exact (tr_kept hX g5 (vown_lt TX.out)))) hne.out (by have := hroom.out; simp only [List.length_append, List.length_cons, List.length_nil] at this ⊢; omega) ((kw_of (by assumption)).1.up) ?_; intro v7 w7 h7 g7)))
      all_goals
        have H7 := Lib.hid h7
        have K7 := Lib.hid (kw_of (by assumption)).1
        clear h5 g5 h7 g7 hbp hbw hbx
        go_wp2_with fail
        go_roundg g
        case measure => omega
        case rel => exact ⟨q + 1, by omega, by go_num, vaside ⟨K7.out, by rw [hnx.out, vtokM_snoc]; have := H7.out; simpa using this⟩⟩
end Go.Proofs.YtnmidlbhkjcimaaDoor
/- The walk of the document's Written: all kinds, and ValueTokens. (gen_rwrit.py wrote it.) -/
namespace Go.Proofs.YtnmidlbhkjcimaaDoor
open Go.RowKit

theorem rwrit_step (N : Nat) (H : ∀ u, sizeV u ≤ N → RWritC u) : ∀ u, sizeV u ≤ N + 1 → RWritC u := by
  intro u hu
  obtain ⟨k, n, s, l, m⟩ := u
  intro c0 c1 c2 c3 c4 w B hB hv hfit hrng hz
  have hf := hfit
  rw [fitV, Bool.and_eq_true, Bool.and_eq_true] at hf
  rcases sound_kind hf.1.1 with rfl | rfl | rfl | rfl | rfl | rfl | rfl | rfl | rfl
  · exact rwrit_0 n s l m c0 c1 c2 c3 c4 w B hB hv hfit hrng hz
  · exact rwrit_1 n s l m c0 c1 c2 c3 c4 w B hB hv hfit hrng hz
  · exact rwrit_2 n s l m c0 c1 c2 c3 c4 w B hB hv hfit hrng hz
  · exact rwrit_3 n s l m c0 c1 c2 c3 c4 w B hB hv hfit hrng hz
  · exact rwrit_4 n s l m c0 c1 c2 c3 c4 w B hB hv hfit hrng hz
  · exact rwrit_5 n s l m c0 c1 c2 c3 c4 w B hB hv hfit hrng hz
  · exact rwrit_6 N H n s l m hu c0 c1 c2 c3 c4 w B hB hv hfit hrng hz
  · exact rwrit_7 N H n s l m hu c0 c1 c2 c3 c4 w B hB hv hfit hrng hz
  · exact rwrit_8 n s l m c0 c1 c2 c3 c4 w B hB hv hfit hrng hz
theorem rwrit_all : ∀ N u, sizeV u ≤ N → RWritC u
  | 0, u, h => by have := sizeV_pos u; omega
  | N + 1, u, h => rwrit_step N (rwrit_all N) u h
set_option maxRecDepth 100000 in
set_option maxHeartbeats 4000000 in
theorem rtokens_any (v : VT) (hz : sizeV v ≤ 9000) (hr : RngV v) (c0 c1 c2 c3 c4 : Value) (w : World) (B : Nat) (hB : B ≤ w.heap.size) (hv : VAt w B v c0 c1 c2 c3 c4) :
    Calls Tryd.prog 8 #[.agg #[c0, c1, c2, c3, c4]] w fun e w' => ∃ V', e = .returned (.tuple #[V', .bool (plainB v)]) ∧ TR w.heap.size w' V' (toksV v) ∧ Below w.heap.size w w' := by
  have CP := fun (wx : World) (hb : Below w.heap.size w wx) => Lib.hid (rplain_any v hz c0 c1 c2 c3 c4 wx B (Nat.le_trans hB hb.size) (VAt.below (hb.mono hB) _ _ _ _ _ _ hv))
  have CW := fun (hfit : fitV nameB v = true) (wx : World) (hb : Below w.heap.size w wx) => Lib.hid (rwrit_all _ v (Nat.le_refl _) c0 c1 c2 c3 c4 wx B (Nat.le_trans hB hb.size) (VAt.below (hb.mono hB) _ _ _ _ _ _ hv) hfit hr hz)
  obtain ⟨k, n, s, l, m⟩ := v
  unfold VAt at hv
  obtain ⟨rfl, rfl, rfl, _, ⟨A, c, rfl, hl, hL⟩, A', c', rfl, hm, hM⟩ := hv
  have K0 := Lib.hid (KBx.start w (.cells #[.int .i64 k, .int .i64 n, .string s, .slice A l.len c, .slice A' m.len c'] 25))
  generalize VT.mk k n s l m = U at *
  obtain ⟨f0, f1, f2, f3, f4⟩ := K0.out.five
  clear hL hM hB
  cases hf : plainB U with
  | false =>
    have hk : Hid (toksV U = []) := Lib.hid (by unfold toksV; rw [hf]; simp)
    have hpb := Lib.hid hf
    rw [hf] at CP
    clear hf CW
    go_enter Tryd.func8, Tryd.ntmps8
    go_wp2_with fail
    refine (CP _ K0.out.low).out.mono ?_
    rintro e w2 ⟨rfl, hb2⟩
    have K2 := Lib.hid (K0.out.next hb2)
    clear hb2 f0 f1 f2 f3 f4
    go_wp2_with fail
    go_ret2
    rw [← hpb.out]
    exact toks_said rfl hk.out (TR.nil _ _) K2.out.low
  | true =>
    have hk : Hid (toksV U = vtok U) := Lib.hid (by unfold toksV; rw [hf]; simp)
    have hpb := Lib.hid hf
    have CW := CW (by unfold plainB at hf; rw [Bool.and_eq_true] at hf; exact hf.1)
    rw [hf] at CP
    clear hf
    go_enter Tryd.func8, Tryd.ntmps8
    go_wp2_with fail
    refine (CP _ K0.out.low).out.mono ?_
    rintro e w2 ⟨rfl, hb2⟩
    have K2 := Lib.hid (K0.out.next hb2)
    clear hb2 f0 f1 f2 f3 f4
    obtain ⟨f0, f1, f2, f3, f4⟩ := K2.out.five
    go_wp2_with fail
    refine (CW _ K2.out.low).out.mono ?_
    rintro e w3 ⟨V3, rfl, h3, hb3⟩
    have H3 := Lib.hid (TR.mono h3 K2.out.low.size)
    have K3 := Lib.hid (K2.out.next hb3)
    clear h3 hb3 f0 f1 f2 f3 f4
    go_wp2_with fail
    go_ret2
    rw [← hpb.out]
    exact toks_said rfl hk.out H3.out K3.out.low
end Go.Proofs.YtnmidlbhkjcimaaDoor
