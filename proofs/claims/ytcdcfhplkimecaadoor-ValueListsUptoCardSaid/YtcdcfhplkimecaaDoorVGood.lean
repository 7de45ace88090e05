/- The walks of value.Good and value.Plain. -/
import Derived.Test.YtcdcfhplkimecaaDoorVFits
namespace Go.Proofs.YtcdcfhplkimecaaDoor
open Go.RowKit

theorem test_good : TestC 36 goodB :=
  ⟨Go.Proofs.enters_of Tryd.func36 (by kernel_rfl) rfl, fun s w hs hw => good_any s w hs hw.1⟩
theorem test_name : TestC 41 nameB :=
  ⟨Go.Proofs.enters_of Tryd.func41 (by kernel_rfl) rfl, fun s w hs _ => (name_any s w hs).mono (by rintro e w' ⟨he, rfl⟩; exact ⟨he, Below.refl _ _⟩)⟩
def plainB (v : VT) : Bool := fitV nameB v && decide (depV v ≤ 16)
set_option maxRecDepth 100000 in
theorem vgood_any (v : VT) (hz : sizeV v ≤ 9000) (c0 c1 c2 c3 c4 : Value) (w : World) (B : Nat) (hB : B ≤ w.heap.size) (hv : VAt w B v c0 c1 c2 c3 c4) (hw : Laid5 w) :
    Calls Tryd.prog 14 #[.agg #[c0, c1, c2, c3, c4]] w fun e w' => e = .returned (.bool (fitV goodB v)) ∧ Below w.heap.size w w' := by
  obtain ⟨k, n, s, l, m⟩ := v
  generalize hU : VT.mk k n s l m = U at *
  have HV := Lib.hid hv
  rw [← hU] at hv
  unfold VAt at hv
  obtain ⟨rfl, rfl, rfl, _, ⟨A, c, rfl, hl, hL⟩, A', c', rfl, hm, hM⟩ := hv
  have hb1 := Lib.hid ((Below.refl w.heap.size w).alloc (Nat.le_refl _) (.cells #[.int .i64 k, .int .i64 n, .string s, .slice A l.len c, .slice A' m.len c'] 25))
  have HF := Lib.hid (fits_any _ _ test_good U hz _ _ _ _ _ _ B (Nat.le_trans hB hb1.out.size) (VAt.below (hb1.out.mono hB) _ _ _ _ _ _ HV.out) (hw.below hb1.out))
  clear hL hM hU hw hz
  go_enter Tryd.func14, Tryd.ntmps14
  go_wp2_with fail
  refine HF.out.mono ?_
  rintro e w2 ⟨rfl, hb2⟩
  have HB2 := Lib.hid (hb1.out.trans (hb2.mono hb1.out.size))
  clear hb2
  go_wp2_with fail
  go_ret
  exact ⟨rfl, HB2.out⟩
set_option maxRecDepth 100000 in
theorem vplain_any (v : VT) (hz : sizeV v ≤ 9000) (c0 c1 c2 c3 c4 : Value) (w : World) (B : Nat) (hB : B ≤ w.heap.size) (hv : VAt w B v c0 c1 c2 c3 c4) (hw : Laid5 w) :
    Calls Tryd.prog 16 #[.agg #[c0, c1, c2, c3, c4]] w fun e w' => e = .returned (.bool (plainB v)) ∧ Below w.heap.size w w' := by
  have hD := depth_any v hz
  obtain ⟨k, n, s, l, m⟩ := v
  generalize hU : VT.mk k n s l m = U at *
  have HV := Lib.hid hv
  rw [← hU] at hv
  unfold VAt at hv
  obtain ⟨rfl, rfl, rfl, _, ⟨A, c, rfl, hl, hL⟩, A', c', rfl, hm, hM⟩ := hv
  have hb1 := Lib.hid ((Below.refl w.heap.size w).alloc (Nat.le_refl _) (.cells #[.int .i64 k, .int .i64 n, .string s, .slice A l.len c, .slice A' m.len c'] 25))
  have HF := Lib.hid (fits_any _ _ test_name U hz _ _ _ _ _ _ B (Nat.le_trans hB hb1.out.size) (VAt.below (hb1.out.mono hB) _ _ _ _ _ _ HV.out) (hw.below hb1.out))
  have HDD := Lib.hid hD
  have HB0 := Lib.hid hB
  have hF5 := Lib.hid (five_at_new w (.int .i64 k) (.int .i64 n) (.string s) (.slice A l.len c) (.slice A' m.len c') 25 rfl)
  have hsw : Hid ((w.alloc (.cells #[.int .i64 k, .int .i64 n, .string s, .slice A l.len c, .slice A' m.len c'] 25)).heap.size = w.heap.size + 1) := Lib.hid (by simp)
  have hpl : Hid (plainB U = (fitV nameB U && decide (depV U ≤ 16))) := Lib.hid rfl
  have hdz := Lib.hid (Nat.le_trans (dep_size U) hz)
  clear hL hM hU hw hz hD hB
  cases hf : fitV nameB U with
  | false =>
    rw [hf] at HF hpl
    clear hf
    go_enter Tryd.func16, Tryd.ntmps16
    go_wp2_with fail
    refine HF.out.mono ?_
    rintro e w2 ⟨rfl, hb2⟩
    have HB2 := Lib.hid (hb1.out.trans (hb2.mono hb1.out.size))
    clear hb2
    go_wp2_with fail
    go_ret
    exact ⟨ret_bool (by rw [hpl.out]; rfl), HB2.out⟩
  | true =>
    rw [hf] at HF hpl
    clear hf
    go_enter Tryd.func16, Tryd.ntmps16
    go_wp2_with fail
    refine HF.out.mono ?_
    rintro e w2 ⟨rfl, hb2⟩
    have hb3 := hb1.out.trans (hb2.mono hb1.out.size)
    have HB2 := Lib.hid hb3
    have hs2 := hb3.size
    obtain ⟨e0, e1, e2, e3, e4⟩ := hF5.out.below hb2 (by rw [hsw.out]; omega)
    clear hb2 hb3
    go_wp2_with fail
    refine (HDD.out _ _ _ _ _ _ B (Nat.le_trans HB0.out hs2) (VAt.below (HB2.out.mono HB0.out) _ _ _ _ _ _ HV.out)).mono ?_
    rintro e w3 ⟨rfl, hb4⟩
    have HB3 := Lib.hid (HB2.out.trans (hb4.mono hs2))
    clear hb4 e0 e1 e2 e3 e4
    obtain ⟨d, hd⟩ : ∃ d, depV U = d := ⟨_, rfl⟩
    rw [hd] at hpl hdz ⊢
    clear hd
    by_cases h16 : d ≤ 16
    · have h16' : (d : Int) ≤ 16 := by omega
      have hr : Hid (plainB U = true) := Lib.hid (by rw [hpl.out]; simpa using h16)
      go_wp2_with fail
      go_ret
      exact ⟨ret_bool (by rw [hr.out]; first | rfl | (simp; done) | (simp; omega) | skip), HB3.out⟩
    · have h16' : ¬ (d : Int) ≤ 16 := by omega
      have hr : Hid (plainB U = false) := Lib.hid (by rw [hpl.out]; simpa using h16)
      go_wp2_with fail
      go_ret
      exact ⟨ret_bool (by rw [hr.out]; first | rfl | (simp; done) | (simp; omega) | skip), HB3.out⟩
end Go.Proofs.YtcdcfhplkimecaaDoor
