/- The walks of the document's vars, Vars and Plain, whole. -/
import Derived.Test.YtnmidlbhkjcimaaDoorZRVars
import Derived.Test.YtnmidlbhkjcimaaDoorZRGood
import Derived.Test.YtnmidlbhkjcimaaDoorVRDepth
import Derived.Test.YtnmidlbhkjcimaaDoorZWrite
import Derived.Test.YtnmidlbhkjcimaaDoorVListsM
namespace Go.Proofs.YtnmidlbhkjcimaaDoor
open Go.RowKit

theorem rvars_all : ∀ N, N ≤ 9000 → ∀ u, sizeV u ≤ N → RVarsC u
  | 0, _, u, h => by cases u; rw [sizeV] at h; omega
  | N + 1, hN, .mk k n s l m, h => by
    by_cases h6 : k = 6
    · subst h6; exact rvars_6 N hN (rvars_all N (by omega)) n s l m h
    · by_cases h7 : k = 7
      · subst h7; exact rvars_7 N hN (rvars_all N (by omega)) n s l m h
      · by_cases h8 : k = 8
        · subst h8; exact rvars_var n s l m
        · exact rvars_oth k n s l m h6 h7 h8
theorem rvarsv_any (u : VT) (h : sizeV u ≤ 9000) : RVarsC u := rvars_all 9000 (Nat.le_refl _) u h
set_option maxRecDepth 100000 in
theorem rVars_any (u : VT) (hz : sizeV u ≤ 9000) (c0 c1 c2 c3 c4 : Value) (w : World) (B : Nat) (hB : B ≤ w.heap.size) (hv : VAt w B u c0 c1 c2 c3 c4) :
    Calls Tryd.prog 18 #[.agg #[c0, c1, c2, c3, c4]] w fun e w' => ∃ V, e = .returned V ∧ SR w.heap.size w' V (varsV u []) ∧ Below w.heap.size w w' := by
  have C := fun (wx : World) (hb : Below w.heap.size w wx) => Lib.hid (rvarsv_any u hz c0 c1 c2 c3 c4 wx B w.heap.size (.slice none 0 0) [] hB hb.size (VAt.below (hb.mono hB) _ _ _ _ _ _ hv) (SR.nil _ _) (by simp; omega))
  obtain ⟨k, n, s, l, m⟩ := u
  unfold VAt at hv
  obtain ⟨rfl, rfl, rfl, hsl, ⟨A, c, rfl, hl, hL⟩, A', c', rfl, hm, hM⟩ := hv
  generalize VT.mk k n s l m = U at *
  have HB1 := Lib.hid (alloc_same w (.cells #[.int .i64 k, .int .i64 n, .string s, .slice A l.len c, .slice A' m.len c'] 25))
  clear hL hM hB
  go_enter Tryd.func18, Tryd.ntmps18
  go_wp2_with fail
  refine (C _ (by first | exact Below.refl _ _ | exact HB1.out)).out.mono ?_
  rintro e w2 ⟨V2, rfl, h2, g2⟩
  have H2 := Lib.hid h2
  have hb : Below w.heap.size w w2 := by
    first
      | exact g2.base (SR.nil w.heap.size _) (Nat.le_refl _)
      | exact HB1.out.trans (SR.base (SR.nil w.heap.size _) g2 (Nat.le_refl _) HB1.out.size)
      | exact SR.base (SR.nil w.heap.size _) g2 (Nat.le_refl _) (Nat.le_refl _)
  have HB := Lib.hid hb
  clear h2 g2 hb
  go_wp2_with fail
  go_ret
  exact ⟨V2, rfl, H2.out, HB.out⟩
set_option maxRecDepth 100000 in
set_option maxHeartbeats 2000000 in
theorem rplain_any (u : VT) (hz : sizeV u ≤ 9000) (c0 c1 c2 c3 c4 : Value) (w : World) (B : Nat) (hB : B ≤ w.heap.size) (hv : VAt w B u c0 c1 c2 c3 c4) :
    Calls Tryd.prog 13 #[.agg #[c0, c1, c2, c3, c4]] w fun e w' => e = .returned (.bool (plainB u)) ∧ Below w.heap.size w w' := by
  have CG := fun (wx : World) (hb : Below w.heap.size w wx) => Lib.hid (rgoodv_any u hz c0 c1 c2 c3 c4 wx B (Nat.le_trans hB hb.size) (VAt.below (hb.mono hB) _ _ _ _ _ _ hv))
  have CD := fun (wx : World) (hb : Below w.heap.size w wx) => Lib.hid (rdep_any u hz c0 c1 c2 c3 c4 wx B (Nat.le_trans hB hb.size) (VAt.below (hb.mono hB) _ _ _ _ _ _ hv))
  have CN := fun (wx : World) (hb : Below w.heap.size w wx) => Lib.hid (rnam_any u hz c0 c1 c2 c3 c4 wx B (Nat.le_trans hB hb.size) (VAt.below (hb.mono hB) _ _ _ _ _ _ hv))
  have hpl : plainB u = (fitV goodB u && decide (depV u ≤ 16) && namedV nameB u) := by
    unfold plainB
    rw [fit_two good_name u]
    cases fitV goodB u <;> cases namedV nameB u <;> simp
  obtain ⟨x, hx⟩ : ∃ x, fitV goodB u = x := ⟨_, rfl⟩
  obtain ⟨y, hy⟩ : ∃ y, namedV nameB u = y := ⟨_, rfl⟩
  have hdz := Nat.le_trans (dep_size u) hz
  obtain ⟨d, hd⟩ : ∃ d, depV u = d := ⟨_, rfl⟩
  rw [hx, hy, hd] at hpl
  rw [hx] at CG
  rw [hy] at CN
  rw [hd] at CD hdz
  have HPL := Lib.hid hpl
  obtain ⟨k, n, s, l, m⟩ := u
  unfold VAt at hv
  obtain ⟨rfl, rfl, rfl, hsl, ⟨A, c, rfl, hl, hL⟩, A', c', rfl, hm, hM⟩ := hv
  have K0 := Lib.hid (KBx.start w (.cells #[.int .i64 k, .int .i64 n, .string s, .slice A l.len c, .slice A' m.len c'] 25))
  generalize VT.mk k n s l m = U at *
  obtain ⟨f0, f1, f2, f3, f4⟩ := K0.out.five
  clear hL hM hB hx hy hd hpl
  cases x with
  | false =>
    go_enter Tryd.func13, Tryd.ntmps13
    go_wp2_with fail
    refine (CG _ K0.out.low).out.mono ?_
    rintro e w2 ⟨rfl, hb2⟩
    have K2 := Lib.hid (K0.out.next hb2)
    clear hb2 f0 f1 f2 f3 f4
    go_wp2_with fail
    go_ret
    exact ⟨ret_bool (by rw [HPL.out]; rfl), K2.out.low⟩
  | true =>
    by_cases hd16 : d ≤ 16
    · have hdi : (d : Int) ≤ 16 := by omega
      have hr : Hid (plainB U = y) := Lib.hid (by rw [HPL.out, decide_eq_true hd16]; cases y <;> rfl)
      clear hd16
      go_enter Tryd.func13, Tryd.ntmps13
      go_wp2_with fail
      refine (CG _ K0.out.low).out.mono ?_
      rintro e w2 ⟨rfl, hb2⟩
      have K2 := Lib.hid (K0.out.next hb2)
      clear hb2 f0 f1 f2 f3 f4
      obtain ⟨f0, f1, f2, f3, f4⟩ := K2.out.five
      go_wp2_with fail
      refine (CD _ K2.out.low).out.mono ?_
      rintro e w3 ⟨rfl, hb3⟩
      have K3 := Lib.hid (K2.out.next hb3)
      clear hb3 f0 f1 f2 f3 f4
      obtain ⟨f0, f1, f2, f3, f4⟩ := K3.out.five
      go_wp2_with fail
      refine (CN _ K3.out.low).out.mono ?_
      rintro e w4 ⟨rfl, hb4⟩
      have K4 := Lib.hid (K3.out.next hb4)
      clear hb4 f0 f1 f2 f3 f4
      go_wp2_with fail
      go_ret
      exact ⟨ret_bool (by rw [hr.out]), K4.out.low⟩
    · have hdi : ¬ (d : Int) ≤ 16 := by omega
      have hr : Hid (plainB U = false) := Lib.hid (by rw [HPL.out, decide_eq_false hd16]; cases y <;> rfl)
      clear hd16
      go_enter Tryd.func13, Tryd.ntmps13
      go_wp2_with fail
      refine (CG _ K0.out.low).out.mono ?_
      rintro e w2 ⟨rfl, hb2⟩
      have K2 := Lib.hid (K0.out.next hb2)
      clear hb2 f0 f1 f2 f3 f4
      obtain ⟨f0, f1, f2, f3, f4⟩ := K2.out.five
      go_wp2_with fail
      refine (CD _ K2.out.low).out.mono ?_
      rintro e w3 ⟨rfl, hb3⟩
      have K3 := Lib.hid (K2.out.next hb3)
      clear hb3 f0 f1 f2 f3 f4
      go_wp2_with fail
      go_ret
      exact ⟨ret_bool (by rw [hr.out]), K3.out.low⟩
end Go.Proofs.YtnmidlbhkjcimaaDoor
