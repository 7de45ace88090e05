/- The page's examples. -/
import Derived.Test.YtcfdfgbobnocnaaGreatDoorLtSpots
namespace Go.Proofs.YtcfdfgbobnocnaaGreatDoor
open Go.RowKit
attribute [local go_sem] Oper.semAt_some

theorem leaf_ts {w : World} {P : Nat → Prop} (k n : Int) (s : ByteArray) (hs : s.size ≤ 9223372036854775807) : TS w P (encV (.mk k n s .nil .nil)) [.int .i64 k, .int .i64 n, .string s, .slice none 0 0, .slice none 0 0] :=
  vp_ts _ _ _ _ _ _ (by unfold VP; exact ⟨rfl, rfl, rfl, hs, ⟨none, 0, rfl, by simp [VL.len], by unfold LP; trivial⟩, none, 0, rfl, by simp [VM.len], by unfold MP; trivial⟩)
theorem leaf_vp {w : World} {P : Nat → Prop} (k n : Int) (s : ByteArray) (hs : s.size ≤ 9223372036854775807) : VP w P (.mk k n s .nil .nil) (.int .i64 k) (.int .i64 n) (.string s) (.slice none 0 0) (.slice none 0 0) := by
  unfold VP; exact ⟨rfl, rfl, rfl, hs, ⟨none, 0, rfl, by simp [VL.len], by unfold LP; trivial⟩, none, 0, rfl, by simp [VM.len], by unfold MP; trivial⟩
theorem list_ts {w : World} {P : Nat → Prop} {g : Nat} {t : TypeId} (k n : Int) (s : ByteArray) (hs : s.size ≤ 9223372036854775807) (hg : P g) (h : w.heap[g]? = some (.cells #[.int .i64 k, .int .i64 n, .string s, .slice none 0 0, .slice none 0 0] t (0, 0))) :
    TS w P (encV (.mk 6 0 ⟨#[]⟩ (.cons (.mk k n s .nil .nil) .nil) .nil)) [.int .i64 6, .int .i64 0, .string ⟨#[]⟩, .slice (some ⟨g, 0, none⟩) 1 1, .slice none 0 0] :=
  vp_ts _ _ _ _ _ _ (by
    have hl : LP w P (.cons (.mk k n s .nil .nil) .nil) (some ⟨g, 0, none⟩) 0 := by
      unfold LP
      refine ⟨⟨g, 0, _, _, _, _, _, rfl, hg, ?_, leaf_vp k n s hs⟩, by unfold LP; trivial⟩
      exact five_box h
    unfold VP
    exact ⟨rfl, rfl, rfl, by decide, ⟨some ⟨g, 0, none⟩, 1, rfl, by simp [VL.len], hl⟩, none, 0, rfl, by simp [VM.len], by unfold MP; trivial⟩)
def S00 : SchT := ⟨[], ⟨#[]⟩, ⟨#[]⟩⟩
theorem sch0_ts {w : World} {P : Nat → Prop} : TS w P (encSch S00) [.slice none 0 0, .string ⟨#[]⟩, .string ⟨#[]⟩] := by
  unfold encSch S00
  simp only [TS, TP]
  exact ⟨_, _, rfl, ⟨none, 0, rfl, by simp [rowOf, TrL.len], by simp [rowOf, RowT]⟩, _, _, rfl, ⟨rfl, Nat.zero_le _⟩, _, _, rfl, ⟨rfl, Nat.zero_le _⟩, rfl⟩
def nInt : ByteArray := ⟨#[73, 110, 116]⟩
def vOne : VT := .mk 2 1 ⟨#[]⟩ .nil .nil
def vLst : VT := .mk 6 0 ⟨#[]⟩ (.cons vOne .nil) .nil
def vVar : VT := .mk 8 0 ⟨#[97]⟩ .nil .nil
def vVars : VT := .mk 6 0 ⟨#[]⟩ (.cons vVar .nil) .nil
theorem all1 : allP [] ⟨nInt, 2, 0, false, vOne⟩ = [⟨nInt, 2, 0, false, vOne⟩, ⟨nInt, 1, 0, false, vOne⟩, ⟨nInt, 0, 0, false, vOne⟩] := by kernel_rfl
theorem all2 : allP [] ⟨nInt, 2, 0, false, vLst⟩ = [⟨nInt, 2, 0, false, vLst⟩, ⟨nInt, 1, 0, false, vOne⟩, ⟨nInt, 0, 0, false, vOne⟩] := by kernel_rfl
theorem all3 : allP [] ⟨nInt, 2, 0, true, vVars⟩ = [⟨nInt, 2, 0, true, vVars⟩, ⟨nInt, 1, 0, false, vVar⟩] := by kernel_rfl
theorem right1 : rightL [] ⟨nInt, 2, 0, false, vOne⟩ = true := by kernel_rfl
theorem right2 : rightL [] ⟨nInt, 2, 0, false, vLst⟩ = false := by kernel_rfl
theorem slim00 : SlimS S00 := ⟨by simp [S00], fun d h => by simp [S00] at h⟩
theorem sp_awake (w : World) (g : Nat) (t : TypeId) (hg : w.heap[g]? = some (.cells #[.int .i64 8, .int .i64 0, .string ⟨#[97]⟩, .slice none 0 0, .slice none 0 0] t (0, 0))) :
    Calls Tryz.prog 11 #[.agg #[.slice none 0 0, .string ⟨#[]⟩, .string ⟨#[]⟩], .agg #[.string nInt, .int .i64 2, .int .i64 0], .bool true, .agg #[.int .i64 6, .int .i64 0, .string ⟨#[]⟩, .slice (some ⟨g, 0, none⟩) 1 1, .slice none 0 0]] w fun e w' => ∃ b c, e = .returned (.slice (some ⟨b, 0, none⟩) 1 c) ∧ (w'.cell? ⟨b, 0, none⟩ = some (.string ⟨#[97]⟩) ∧ w'.cell? ⟨b, 2, none⟩ = some (.int .i64 1) ∧ w'.cell? ⟨b, 4, none⟩ = some (.bool false)) ∧ Below w.heap.size w w' := by
  have hlt := (Array.getElem?_eq_some_iff.1 hg).1
  refine (spots_any S00 nInt 2 0 true vVars _ _ _ _ _ _ _ w w.heap.size (Nat.le_refl _) slim00 _ rfl [nInt] (by decide) ?_ ?_ (by decide) sch0_ts (list_ts (g := g) 8 0 ⟨#[97]⟩ (by decide) hlt hg)).mono ?_
  · show ∀ x, x ∈ allP [] ⟨nInt, 2, 0, true, vVars⟩ → _
    rw [all3]
    intro x hx
    simp at hx
    rcases hx with rfl | rfl <;> exact ⟨by simp, by decide, by decide⟩
  · show (allP [] ⟨nInt, 2, 0, true, vVars⟩).length ≤ _
    rw [all3]
    decide
  · rintro e w' ⟨V, rfl, ⟨b, hb, ho⟩, hlow⟩
    change w'.ownsRow b 42 5 V (spotsOf (allP [] ⟨nInt, 2, 0, true, vVars⟩)).length ((spotsOf (allP [] ⟨nInt, 2, 0, true, vVars⟩)).flatMap spotC) at ho
    rw [all3] at ho
    obtain ⟨b', c, rfl⟩ := ownsRow_succ (k := 0) ho
    have hc := ho.cells (g := b') rfl
    refine ⟨b', c, rfl, ⟨?_, ?_, ?_⟩, hlow⟩
    · have := hc 0 _ rfl
      rw [add_at] at this
      simpa [vVar, VT.ss] using this
    · have := hc 2 _ rfl
      rw [add_at] at this
      simpa using this
    · have := hc 4 _ rfl
      rw [add_at] at this
      simpa using this
theorem ri_one (w : World) (hw : Laid5 w) :
    Calls Tryz.prog 13 #[.agg #[.slice none 0 0, .string ⟨#[]⟩, .string ⟨#[]⟩], .agg #[.string nInt, .int .i64 2, .int .i64 0], .agg #[.int .i64 2, .int .i64 1, .string ⟨#[]⟩, .slice none 0 0, .slice none 0 0]] w fun e w' => e = .returned (.bool true) ∧ Below w.heap.size w w' := by
  refine (right_any S00 nInt 2 0 vOne _ _ _ _ _ _ _ w w.heap.size (Nat.le_refl _) hw slim00 (by decide) _ rfl [nInt] (by decide) ?_ ?_ (by decide) sch0_ts (leaf_ts 2 1 ⟨#[]⟩ (by decide))).mono ?_
  · show ∀ x, x ∈ allP [] ⟨nInt, 2, 0, false, vOne⟩ → _
    rw [all1]
    intro x hx
    simp at hx
    rcases hx with rfl | rfl | rfl <;> exact ⟨by simp, by decide, by decide⟩
  · show (allP [] ⟨nInt, 2, 0, false, vOne⟩).length ≤ _
    rw [all1]
    decide
  · rintro e w' ⟨rfl, hb⟩
    exact ⟨by rw [show S00.defs = [] from rfl, right1], hb⟩
theorem ri_lst (w : World) (hw : Laid5 w) (g : Nat) (t : TypeId) (hg : w.heap[g]? = some (.cells #[.int .i64 2, .int .i64 1, .string ⟨#[]⟩, .slice none 0 0, .slice none 0 0] t (0, 0))) :
    Calls Tryz.prog 13 #[.agg #[.slice none 0 0, .string ⟨#[]⟩, .string ⟨#[]⟩], .agg #[.string nInt, .int .i64 2, .int .i64 0], .agg #[.int .i64 6, .int .i64 0, .string ⟨#[]⟩, .slice (some ⟨g, 0, none⟩) 1 1, .slice none 0 0]] w fun e w' => e = .returned (.bool false) ∧ Below w.heap.size w w' := by
  have hlt := (Array.getElem?_eq_some_iff.1 hg).1
  refine (right_any S00 nInt 2 0 vLst _ _ _ _ _ _ _ w w.heap.size (Nat.le_refl _) hw slim00 (by decide) _ rfl [nInt] (by decide) ?_ ?_ (by decide) sch0_ts (list_ts (g := g) 2 1 ⟨#[]⟩ (by decide) hlt hg)).mono ?_
  · show ∀ x, x ∈ allP [] ⟨nInt, 2, 0, false, vLst⟩ → _
    rw [all2]
    intro x hx
    simp at hx
    rcases hx with rfl | rfl | rfl <;> exact ⟨by simp, by decide, by decide⟩
  · show (allP [] ⟨nInt, 2, 0, false, vLst⟩).length ≤ _
    rw [all2]
    decide
  · rintro e w' ⟨rfl, hb⟩
    exact ⟨by rw [show S00.defs = [] from rfl, right2], hb⟩
set_option maxRecDepth 100000 in
set_option maxHeartbeats 8000000 in
theorem awake_any (w : World) (hw : Laid5 w) : Calls Tryz.prog 9 #[] w fun e w' => e = .returned (.bool true) ∧ Below w.heap.size w w' := by
  have HW := Lib.hid hw
  clear hw
  go_enter Tryz.func9, Tryz.ntmps9
  go_wp2_with fail
  have h0 : (((w.alloc (.cells #[.string ⟨#[73, 110, 116]⟩, .int .i64 2, .int .i64 0] 26)).alloc (.cells #[.int .i64 2, .int .i64 1, .string ⟨#[]⟩, .slice none 0 0, .slice none 0 0] 30)).alloc (.cells #[.int .i64 8, .int .i64 0, .string ⟨#[97]⟩, .slice none 0 0, .slice none 0 0] 30)).heap[w.heap.size]? = some (.cells #[.string ⟨#[73, 110, 116]⟩, .int .i64 2, .int .i64 0] 26 (0, 0)) := by
    rw [Below.heap_alloc _ _ _ (by simp; omega), Below.heap_alloc _ _ _ (by simp)]; exact heap_alloc_new _ _
  have h1 : (((w.alloc (.cells #[.string ⟨#[73, 110, 116]⟩, .int .i64 2, .int .i64 0] 26)).alloc (.cells #[.int .i64 2, .int .i64 1, .string ⟨#[]⟩, .slice none 0 0, .slice none 0 0] 30)).alloc (.cells #[.int .i64 8, .int .i64 0, .string ⟨#[97]⟩, .slice none 0 0, .slice none 0 0] 30)).heap[w.heap.size + 1]? = some (.cells #[.int .i64 2, .int .i64 1, .string ⟨#[]⟩, .slice none 0 0, .slice none 0 0] 30 (0, 0)) := by
    rw [Below.heap_alloc _ _ _ (by simp)]; exact heap_two _ _ _
  have h2 : (((w.alloc (.cells #[.string ⟨#[73, 110, 116]⟩, .int .i64 2, .int .i64 0] 26)).alloc (.cells #[.int .i64 2, .int .i64 1, .string ⟨#[]⟩, .slice none 0 0, .slice none 0 0] 30)).alloc (.cells #[.int .i64 8, .int .i64 0, .string ⟨#[97]⟩, .slice none 0 0, .slice none 0 0] 30)).heap[w.heap.size + 1 + 1]? = some (.cells #[.int .i64 8, .int .i64 0, .string ⟨#[97]⟩, .slice none 0 0, .slice none 0 0] 30 (0, 0)) := by
    have := heap_two (w.alloc (.cells #[.string ⟨#[73, 110, 116]⟩, .int .i64 2, .int .i64 0] 26)) (.cells #[.int .i64 2, .int .i64 1, .string ⟨#[]⟩, .slice none 0 0, .slice none 0 0] 30) (.cells #[.int .i64 8, .int .i64 0, .string ⟨#[97]⟩, .slice none 0 0, .slice none 0 0] 30)
    simpa using this
  have hb1 : Below w.heap.size w (((w.alloc (.cells #[.string ⟨#[73, 110, 116]⟩, .int .i64 2, .int .i64 0] 26)).alloc (.cells #[.int .i64 2, .int .i64 1, .string ⟨#[]⟩, .slice none 0 0, .slice none 0 0] 30)).alloc (.cells #[.int .i64 8, .int .i64 0, .string ⟨#[97]⟩, .slice none 0 0, .slice none 0 0] 30)) := (two_below w _ _).alloc (by simp; omega) _
  generalize ((w.alloc (.cells #[.string ⟨#[73, 110, 116]⟩, .int .i64 2, .int .i64 0] 26)).alloc (.cells #[.int .i64 2, .int .i64 1, .string ⟨#[]⟩, .slice none 0 0, .slice none 0 0] 30)).alloc (.cells #[.int .i64 8, .int .i64 0, .string ⟨#[97]⟩, .slice none 0 0, .slice none 0 0] 30) = w1 at h0 h1 h2 hb1 ⊢
  refine (sp_awake w1 (w.heap.size + 1 + 1) _ h2).mono ?_
  rintro e w2 ⟨b, c, rfl, ⟨p0, p2, p4⟩, hb2⟩
  have B2 := Lib.hid (hb1.trans (hb2.mono hb1.size))
  have H0 := Lib.hid ((hb2.block _ (Array.getElem?_eq_some_iff.1 h0).1).trans h0)
  have H1 := Lib.hid ((hb2.block _ (Array.getElem?_eq_some_iff.1 h1).1).trans h1)
  have HP := Lib.hid (And.intro p0 (And.intro p2 p4))
  clear h0 h1 h2 hb1 hb2 p0 p2 p4
  generalize w.heap.size + 1 + 1 = gv
  generalize w.heap.size + 1 = g1 at H1 ⊢
  generalize hg0 : w.heap.size = g0 at H0 ⊢
  have HG0 := Lib.hid hg0
  clear hg0
  obtain ⟨x0, x1, x2⟩ := three_cells H0.out
  obtain ⟨y0, y1, y2, y3, y4⟩ := five_box H1.out
  go_wp2_with fail
  refine (ri_one w2 (HW.out.below B2.out)).mono ?_
  rintro e w3 ⟨rfl, hb3⟩
  have B3 := Lib.hid (B2.out.trans (hb3.mono B2.out.size))
  have H0' := Lib.hid ((hb3.block _ (Array.getElem?_eq_some_iff.1 H0.out).1).trans H0.out)
  have H1' := Lib.hid ((hb3.block _ (Array.getElem?_eq_some_iff.1 H1.out).1).trans H1.out)
  have hbl := World.block_lt_of_cell? w2 _ HP.out.1
  have HP' := Lib.hid (And.intro ((hb3.cell (p := ⟨b, 0, none⟩) hbl).trans HP.out.1) (And.intro ((hb3.cell (p := ⟨b, 2, none⟩) hbl).trans HP.out.2.1) ((hb3.cell (p := ⟨b, 4, none⟩) hbl).trans HP.out.2.2)))
  clear x0 x1 x2 y0 y1 y2 y3 y4 hb3 hbl H0 H1 HP
  obtain ⟨x0, x1, x2⟩ := three_cells H0'.out
  obtain ⟨y0, y1, y2, y3, y4⟩ := five_box H1'.out
  go_wp2_with fail
  have h5 := heap_alloc_new w3 (.cells #[.int .i64 2, .int .i64 1, .string ⟨#[]⟩, .slice none 0 0, .slice none 0 0] 30)
  have hb4 := dbelow_new w3 (.cells #[.int .i64 2, .int .i64 1, .string ⟨#[]⟩, .slice none 0 0, .slice none 0 0] 30)
  refine (ri_lst _ (HW.out.below (B3.out.trans (hb4.mono B3.out.size))) w3.heap.size _ h5).mono ?_
  rintro e w5 ⟨rfl, hb5⟩
  have B5 := Lib.hid ((B3.out.trans (hb4.mono B3.out.size)).trans (hb5.mono (Nat.le_trans B3.out.size hb4.size)))
  have hb35 := hb4.trans (hb5.mono hb4.size)
  have hbl := World.block_lt_of_cell? w3 _ HP'.out.1
  have p0 := (hb35.cell (p := ⟨b, 0, none⟩) hbl).trans HP'.out.1
  have p2 := (hb35.cell (p := ⟨b, 2, none⟩) hbl).trans HP'.out.2.1
  have p4 := (hb35.cell (p := ⟨b, 4, none⟩) hbl).trans HP'.out.2.2
  clear x0 x1 x2 y0 y1 y2 y3 y4 h5 hb4 hb5 hb35 hbl H0' H1' HP'
  go_wp2_with fail
  go_ret
  exact ⟨rfl, B5.out⟩
end Go.Proofs.YtcfdfgbobnocnaaGreatDoor
