/- The walk of value.Tokens. -/
import Derived.Test.YtcdcfhplkimecaaDoorVWrite4
namespace Go.Proofs.YtcdcfhplkimecaaDoor
open Go.RowKit

mutual
theorem VAt.more {w : World} {B B' : Nat} (hb : B ≤ B') : ∀ (v : VT) (c0 c1 c2 c3 c4 : Value), VAt w B v c0 c1 c2 c3 c4 → VAt w B' v c0 c1 c2 c3 c4
  | .mk k n s l m, c0, c1, c2, c3, c4, h => by
    unfold VAt at h ⊢
    obtain ⟨h0, h1, h2, hs, ⟨A, c, h3, g3, h4⟩, A', c', h5, g5, h6⟩ := h
    exact ⟨h0, h1, h2, hs, ⟨A, c, h3, g3, LAt.more hb l A 0 h4⟩, A', c', h5, g5, MAt.more hb m A' 0 h6⟩
theorem LAt.more {w : World} {B B' : Nat} (hb : B ≤ B') : ∀ (l : VL) (A : Option Addr) (j : Nat), LAt w B l A j → LAt w B' l A j
  | .nil, _, _, _ => by unfold LAt; trivial
  | .cons v t, A, j, h => by
    unfold LAt at h ⊢
    obtain ⟨⟨b, o, c0, c1, c2, c3, c4, hA, hlt, hf, hv⟩, ht⟩ := h
    exact ⟨⟨b, o, c0, c1, c2, c3, c4, hA, Nat.lt_of_lt_of_le hlt hb, hf, VAt.more hb v _ _ _ _ _ hv⟩, LAt.more hb t A (j + 1) ht⟩
theorem MAt.more {w : World} {B B' : Nat} (hb : B ≤ B') : ∀ (l : VM) (A : Option Addr) (j : Nat), MAt w B l A j → MAt w B' l A j
  | .nil, _, _, _ => by unfold MAt; trivial
  | .cons nm v t, A, j, h => by
    unfold MAt at h ⊢
    obtain ⟨⟨b, o, c0, c1, c2, c3, c4, hA, hlt, hn, hz, hf, hv⟩, ht⟩ := h
    exact ⟨⟨b, o, c0, c1, c2, c3, c4, hA, Nat.lt_of_lt_of_le hlt hb, hn, hz, hf, VAt.more hb v _ _ _ _ _ hv⟩, MAt.more hb t A (j + 1) ht⟩
end
theorem write_step (N : Nat) (H : ∀ u, sizeV u ≤ N → WriteC u) : ∀ u, sizeV u ≤ N + 1 → WriteC u := by
  intro u hu
  obtain ⟨k, n, s, l, m⟩ := u
  intro c0 c1 c2 c3 c4 w base V ts hB hv hT hlen hz hK hfit hrng
  have hf := hfit
  rw [fitV, Bool.and_eq_true, Bool.and_eq_true] at hf
  rcases sound_kind hf.1.1 with rfl | rfl | rfl | rfl | rfl | rfl | rfl | rfl | rfl
  · exact write_null n s l m c0 c1 c2 c3 c4 w base V ts hB hv hT hlen hz hK hfit hrng
  · exact write_bool n s l m c0 c1 c2 c3 c4 w base V ts hB hv hT hlen hz hK hfit hrng
  · exact write_int n s l m c0 c1 c2 c3 c4 w base V ts hB hv hT hlen hz hK hfit hrng
  · exact write_num n s l m c0 c1 c2 c3 c4 w base V ts hB hv hT hlen hz hK hfit hrng
  · exact write_text n s l m c0 c1 c2 c3 c4 w base V ts hB hv hT hlen hz hK hfit hrng
  · exact write_enum n s l m c0 c1 c2 c3 c4 w base V ts hB hv hT hlen hz hK hfit hrng
  · exact write_list N H n s l m hu c0 c1 c2 c3 c4 w base V ts hB hv hT hlen hz hK hfit hrng
  · exact write_map N H n s l m hu c0 c1 c2 c3 c4 w base V ts hB hv hT hlen hz hK hfit hrng
  · exact write_var n s l m c0 c1 c2 c3 c4 w base V ts hB hv hT hlen hz hK hfit hrng
theorem write_all : ∀ N u, sizeV u ≤ N → WriteC u
  | 0, u, h => by have := sizeV_pos u; omega
  | N + 1, u, h => write_step N (write_all N) u h
/-- The tokens of a value, or none. -/
def toksV (v : VT) : List (Int × ByteArray) := if plainB v = true then vtok v else []
theorem toks_said {w w' : World} {v : VT} {V : Value} {b : Bool} {ts : List (Int × ByteArray)} (hb : plainB v = b) (hk : toksV v = ts) (h : TR w.heap.size w' V ts) (hw : Below w.heap.size w w') : ∃ V', Ending.returned (.tuple #[V, .bool b]) = .returned (.tuple #[V', .bool (plainB v)]) ∧ TR w.heap.size w' V' (toksV v) ∧ Below w.heap.size w w' :=
  ⟨V, by rw [hb], by rw [hk]; exact h, hw⟩
set_option maxRecDepth 100000 in
theorem tokens_any (v : VT) (hz : sizeV v ≤ 9000) (hr : RngV v) (c0 c1 c2 c3 c4 : Value) (w : World) (B : Nat) (hB : B ≤ w.heap.size) (hv : VAt w B v c0 c1 c2 c3 c4) (hw : Laid5 w) :
    Calls Tryd.prog 11 #[.agg #[c0, c1, c2, c3, c4]] w fun e w' => ∃ V', e = .returned (.tuple #[V', .bool (plainB v)]) ∧ TR w.heap.size w' V' (toksV v) ∧ Below w.heap.size w w' := by
  have hWr := write_all _ v (Nat.le_refl _)
  obtain ⟨k, n, s, l, m⟩ := v
  generalize hU : VT.mk k n s l m = U at *
  have HV := Lib.hid hv
  rw [← hU] at hv
  unfold VAt at hv
  obtain ⟨rfl, rfl, rfl, _, ⟨A, c, rfl, hl, hL⟩, A', c', rfl, hm, hM⟩ := hv
  have hb1 := Lib.hid (alloc_same w (.cells #[.int .i64 k, .int .i64 n, .string s, .slice A l.len c, .slice A' m.len c'] 25))
  have HF := Lib.hid (vplain_any U hz _ _ _ _ _ _ B (Nat.le_trans hB hb1.out.size) (VAt.below (hb1.out.mono hB) _ _ _ _ _ _ HV.out) (hw.below hb1.out))
  have HWR := Lib.hid hWr
  have HB0 := Lib.hid hB
  have HZ := Lib.hid hz
  have HR := Lib.hid hr
  have HW := Lib.hid hw
  have hF5 := Lib.hid (five_at_new w (.int .i64 k) (.int .i64 n) (.string s) (.slice A l.len c) (.slice A' m.len c') 25 rfl)
  have hsw : Hid ((w.alloc (.cells #[.int .i64 k, .int .i64 n, .string s, .slice A l.len c, .slice A' m.len c'] 25)).heap.size = w.heap.size + 1) := Lib.hid (by simp)
  clear hL hM hU hw hz hB hWr hr
  cases hf : plainB U with
  | false =>
    have hk : Hid (toksV U = []) := Lib.hid (by unfold toksV; rw [hf]; simp)
    have hpb := Lib.hid hf
    rw [hf] at HF
    clear hf
    go_enter Tryd.func11, Tryd.ntmps11
    go_wp2_with fail
    refine HF.out.mono ?_
    rintro e w2 ⟨rfl, hb2⟩
    have HB2 := Lib.hid (hb1.out.trans (hb2.mono hb1.out.size))
    clear hb2
    go_wp2_with fail
    go_ret2
    rw [← hpb.out]
    exact toks_said rfl hk.out (TR.nil _ _) HB2.out
  | true =>
    have hk : Hid (toksV U = vtok U) := Lib.hid (by unfold toksV; rw [hf]; simp)
    have hpb := Lib.hid hf
    have hfit : Hid (fitV nameB U = true) := Lib.hid (by unfold plainB at hf; rw [Bool.and_eq_true] at hf; exact hf.1)
    rw [hf] at HF
    clear hf
    go_enter Tryd.func11, Tryd.ntmps11
    go_wp2_with fail
    refine HF.out.mono ?_
    rintro e w2 ⟨rfl, hb2⟩
    have hb3 := hb1.out.trans (hb2.mono hb1.out.size)
    have HB2 := Lib.hid hb3
    have hs2 := hb3.size
    obtain ⟨e0, e1, e2, e3, e4⟩ := hF5.out.below hb2 (by rw [hsw.out]; omega)
    clear hb2 hb3
    go_wp2_with fail
    refine (HWR.out _ _ _ _ _ w2 w.heap.size _ [] hs2 (VAt.more HB0.out _ _ _ _ _ _ (VAt.below (HB2.out.mono HB0.out) _ _ _ _ _ _ HV.out)) (TR.nil _ _) (by have := HZ.out; simp only [List.length_nil]; omega) HZ.out ⟨w, HW.out, Nat.le_refl _, HB2.out⟩ hfit.out HR.out).mono ?_
    rintro e w3 ⟨V3, rfl, h3, g3⟩
    have H3 := Lib.hid h3
    have HB3 := Lib.hid (HB2.out.trans (g3.base (TR.nil w.heap.size w2) hs2))
    clear h3 g3 e0 e1 e2 e3 e4
    go_wp2_with fail
    go_ret2
    rw [← hpb.out]
    exact toks_said rfl hk.out (by have := H3.out; rwa [List.nil_append] at this) HB3.out
end Go.Proofs.YtcdcfhplkimecaaDoor
