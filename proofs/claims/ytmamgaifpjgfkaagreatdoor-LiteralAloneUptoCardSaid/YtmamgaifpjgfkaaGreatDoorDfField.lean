/- defs.Field. -/
import Derived.Test.YtmamgaifpjgfkaaGreatDoorLtSpots
import Derived.Test.YtmamgaifpjgfkaaGreatDoorDfFind
import Derived.Test.YtmamgaifpjgfkaaGreatDoorVSize
import Derived.Test.YtmamgaifpjgfkaaGreatDoorLtM
namespace Go.Proofs.YtmamgaifpjgfkaaGreatDoor
open Go.RowKit
attribute [local go_sem] Oper.semAt_some

theorem leaf_ts {w : World} {P : Nat → Prop} (k n : Int) (s : ByteArray) (hs : s.size ≤ 9223372036854775807) : TS w P (encV (.mk k n s .nil .nil)) [.int .i64 k, .int .i64 n, .string s, .slice none 0 0, .slice none 0 0] :=
  vp_ts _ _ _ _ _ _ (by unfold VP; exact ⟨rfl, rfl, rfl, hs, ⟨none, 0, rfl, by simp [VL.len], by unfold LP; trivial⟩, none, 0, rfl, by simp [VM.len], by unfold MP; trivial⟩)
theorem leaf_vp {w : World} {P : Nat → Prop} (k n : Int) (s : ByteArray) (hs : s.size ≤ 9223372036854775807) : VP w P (.mk k n s .nil .nil) (.int .i64 k) (.int .i64 n) (.string s) (.slice none 0 0) (.slice none 0 0) := by
  unfold VP; exact ⟨rfl, rfl, rfl, hs, ⟨none, 0, rfl, by simp [VL.len], by unfold LP; trivial⟩, none, 0, rfl, by simp [VM.len], by unfold MP; trivial⟩
theorem list_ts {w : World} {P : Nat → Prop} {g : Nat} {t : TypeId} (k n : Int) (s : ByteArray) (hs : s.size ≤ 9223372036854775807) (hg : P g) (h : w.heap[g]? = some (.cells #[.int .i64 k, .int .i64 n, .string s, .slice none 0 0, .slice none 0 0] t (0, 0))) :
    TS w P (encV (.mk 6 0 ⟨#[]⟩ (.cons (.mk k n s .nil .nil) .nil) .nil)) [.int .i64 6, .int .i64 0, .string ⟨#[]⟩, .slice (some ⟨g, 0, none⟩) 1 1, .slice none 0 0] :=
  vp_ts _ _ _ _ _ _ (by
    have hl : LP w P (.cons (.mk k n s .nil .nil) .nil) (some ⟨g, 0, none⟩) 0 := by
      unfold LP
      refine ⟨⟨g, 0, _, _, _, _, _, rfl, hg, ?_, leaf_vp k n s hs⟩, by unfold LP; trivial⟩
      exact five_box h
    unfold VP
    exact ⟨rfl, rfl, rfl, by decide, ⟨some ⟨g, 0, none⟩, 1, rfl, by simp [VL.len], hl⟩, none, 0, rfl, by simp [VM.len], by unfold MP; trivial⟩)
def S00 : SchT := ⟨[], ⟨#[]⟩, ⟨#[]⟩⟩
theorem sch0_ts {w : World} {P : Nat → Prop} : TS w P (encSch S00) [.slice none 0 0, .string ⟨#[]⟩, .string ⟨#[]⟩] := by
  unfold encSch S00
  simp only [TS, TP]
  exact ⟨_, _, rfl, ⟨none, 0, rfl, by simp [rowOf, TrL.len], by simp [rowOf, RowT]⟩, _, _, rfl, ⟨rfl, Nat.zero_le _⟩, _, _, rfl, ⟨rfl, Nat.zero_le _⟩, rfl⟩
def nInt : ByteArray := ⟨#[73, 110, 116]⟩
def vOne : VT := .mk 2 1 ⟨#[]⟩ .nil .nil
def vLst : VT := .mk 6 0 ⟨#[]⟩ (.cons vOne .nil) .nil
def vVar : VT := .mk 8 0 ⟨#[97]⟩ .nil .nil
def vVars : VT := .mk 6 0 ⟨#[]⟩ (.cons vVar .nil) .nil
theorem all1 : allP [] ⟨nInt, 2, 0, false, vOne⟩ = [⟨nInt, 2, 0, false, vOne⟩, ⟨nInt, 1, 0, false, vOne⟩, ⟨nInt, 0, 0, false, vOne⟩] := by kernel_rfl
theorem all2 : allP [] ⟨nInt, 2, 0, false, vLst⟩ = [⟨nInt, 2, 0, false, vLst⟩, ⟨nInt, 1, 0, false, vOne⟩, ⟨nInt, 0, 0, false, vOne⟩] := by kernel_rfl
theorem all3 : allP [] ⟨nInt, 2, 0, true, vVars⟩ = [⟨nInt, 2, 0, true, vVars⟩, ⟨nInt, 1, 0, false, vVar⟩] := by kernel_rfl
theorem right1 : rightL [] ⟨nInt, 2, 0, false, vOne⟩ = true := by kernel_rfl
theorem right2 : rightL [] ⟨nInt, 2, 0, false, vLst⟩ = false := by kernel_rfl
theorem slim00 : SlimS S00 := ⟨by simp [S00], fun d h => by simp [S00] at h⟩
theorem sp_awake (w : World) (g : Nat) (t : TypeId) (hg : w.heap[g]? = some (.cells #[.int .i64 8, .int .i64 0, .string ⟨#[97]⟩, .slice none 0 0, .slice none 0 0] t (0, 0))) :
    Calls Tryz.prog 13 #[.agg #[.slice none 0 0, .string ⟨#[]⟩, .string ⟨#[]⟩], .agg #[.string nInt, .int .i64 2, .int .i64 0], .bool true, .agg #[.int .i64 6, .int .i64 0, .string ⟨#[]⟩, .slice (some ⟨g, 0, none⟩) 1 1, .slice none 0 0]] w fun e w' => ∃ b c, e = .returned (.slice (some ⟨b, 0, none⟩) 1 c) ∧ (w'.cell? ⟨b, 0, none⟩ = some (.string ⟨#[97]⟩) ∧ w'.cell? ⟨b, 2, none⟩ = some (.int .i64 1) ∧ w'.cell? ⟨b, 4, none⟩ = some (.bool false)) ∧ Below w.heap.size w w' := by
  have hlt := (Array.getElem?_eq_some_iff.1 hg).1
  refine (spots_any S00 nInt 2 0 true vVars _ _ _ _ _ _ _ w w.heap.size (Nat.le_refl _) slim00 _ rfl [nInt] (by decide) ?_ ?_ (by decide) sch0_ts (list_ts (g := g) 8 0 ⟨#[97]⟩ (by decide) hlt hg)).mono ?_
  · show ∀ x, x ∈ allP [] ⟨nInt, 2, 0, true, vVars⟩ → _
    rw [all3]
    intro x hx
    simp at hx
    rcases hx with rfl | rfl <;> exact ⟨by simp, by decide, by decide⟩
  · show (allP [] ⟨nInt, 2, 0, true, vVars⟩).length ≤ _
    rw [all3]
    decide
  · rintro e w' ⟨V, rfl, ⟨b, hb, ho⟩, hlow⟩
    change w'.ownsRow b 42 5 V (spotsOf (allP [] ⟨nInt, 2, 0, true, vVars⟩)).length ((spotsOf (allP [] ⟨nInt, 2, 0, true, vVars⟩)).flatMap spotC) at ho
    rw [all3] at ho
    obtain ⟨b', c, rfl⟩ := ownsRow_succ (k := 0) ho
    have hc := ho.cells (g := b') rfl
    refine ⟨b', c, rfl, ⟨?_, ?_, ?_⟩, hlow⟩
    · have := hc 0 _ rfl
      rw [add_at] at this
      simpa [vVar, VT.ss] using this
    · have := hc 2 _ rfl
      rw [add_at] at this
      simpa using this
    · have := hc 4 _ rfl
      rw [add_at] at this
      simpa using this
theorem ri_one (w : World) (hw : Laid5 w) :
    Calls Tryz.prog 15 #[.agg #[.slice none 0 0, .string ⟨#[]⟩, .string ⟨#[]⟩], .agg #[.string nInt, .int .i64 2, .int .i64 0], .agg #[.int .i64 2, .int .i64 1, .string ⟨#[]⟩, .slice none 0 0, .slice none 0 0]] w fun e w' => e = .returned (.bool true) ∧ Below w.heap.size w w' := by
  refine (right_any S00 nInt 2 0 vOne _ _ _ _ _ _ _ w w.heap.size (Nat.le_refl _) hw slim00 (by decide) _ rfl [nInt] (by decide) ?_ ?_ (by decide) sch0_ts (leaf_ts 2 1 ⟨#[]⟩ (by decide))).mono ?_
  · show ∀ x, x ∈ allP [] ⟨nInt, 2, 0, false, vOne⟩ → _
    rw [all1]
    intro x hx
    simp at hx
    rcases hx with rfl | rfl | rfl <;> exact ⟨by simp, by decide, by decide⟩
  · show (allP [] ⟨nInt, 2, 0, false, vOne⟩).length ≤ _
    rw [all1]
    decide
  · rintro e w' ⟨rfl, hb⟩
    exact ⟨by rw [show S00.defs = [] from rfl, right1], hb⟩
theorem ri_lst (w : World) (hw : Laid5 w) (g : Nat) (t : TypeId) (hg : w.heap[g]? = some (.cells #[.int .i64 2, .int .i64 1, .string ⟨#[]⟩, .slice none 0 0, .slice none 0 0] t (0, 0))) :
    Calls Tryz.prog 15 #[.agg #[.slice none 0 0, .string ⟨#[]⟩, .string ⟨#[]⟩], .agg #[.string nInt, .int .i64 2, .int .i64 0], .agg #[.int .i64 6, .int .i64 0, .string ⟨#[]⟩, .slice (some ⟨g, 0, none⟩) 1 1, .slice none 0 0]] w fun e w' => e = .returned (.bool false) ∧ Below w.heap.size w w' := by
  have hlt := (Array.getElem?_eq_some_iff.1 hg).1
  refine (right_any S00 nInt 2 0 vLst _ _ _ _ _ _ _ w w.heap.size (Nat.le_refl _) hw slim00 (by decide) _ rfl [nInt] (by decide) ?_ ?_ (by decide) sch0_ts (list_ts (g := g) 2 1 ⟨#[]⟩ (by decide) hlt hg)).mono ?_
  · show ∀ x, x ∈ allP [] ⟨nInt, 2, 0, false, vLst⟩ → _
    rw [all2]
    intro x hx
    simp at hx
    rcases hx with rfl | rfl | rfl <;> exact ⟨by simp, by decide, by decide⟩
  · show (allP [] ⟨nInt, 2, 0, false, vLst⟩).length ≤ _
    rw [all2]
    decide
  · rintro e w' ⟨rfl, hb⟩
    exact ⟨by rw [show S00.defs = [] from rfl, right2], hb⟩
set_option maxRecDepth 100000 in
set_option maxHeartbeats 8000000 in
theorem awake_any (w : World) (hw : Laid5 w) : Calls Tryz.prog 11 #[] w fun e w' => e = .returned (.bool true) ∧ Below w.heap.size w w' := by
  have HW := Lib.hid hw
  clear hw
  go_enter Tryz.func11, Tryz.ntmps11
  go_wp2_with fail
  have h0 : (((w.alloc (.cells #[.string ⟨#[73, 110, 116]⟩, .int .i64 2, .int .i64 0] 26)).alloc (.cells #[.int .i64 2, .int .i64 1, .string ⟨#[]⟩, .slice none 0 0, .slice none 0 0] 30)).alloc (.cells #[.int .i64 8, .int .i64 0, .string ⟨#[97]⟩, .slice none 0 0, .slice none 0 0] 30)).heap[w.heap.size]? = some (.cells #[.string ⟨#[73, 110, 116]⟩, .int .i64 2, .int .i64 0] 26 (0, 0)) := by
    rw [Below.heap_alloc _ _ _ (by simp; omega), Below.heap_alloc _ _ _ (by simp)]; exact heap_alloc_new _ _
  have h1 : (((w.alloc (.cells #[.string ⟨#[73, 110, 116]⟩, .int .i64 2, .int .i64 0] 26)).alloc (.cells #[.int .i64 2, .int .i64 1, .string ⟨#[]⟩, .slice none 0 0, .slice none 0 0] 30)).alloc (.cells #[.int .i64 8, .int .i64 0, .string ⟨#[97]⟩, .slice none 0 0, .slice none 0 0] 30)).heap[w.heap.size + 1]? = some (.cells #[.int .i64 2, .int .i64 1, .string ⟨#[]⟩, .slice none 0 0, .slice none 0 0] 30 (0, 0)) := by
    rw [Below.heap_alloc _ _ _ (by simp)]; exact heap_two _ _ _
  have h2 : (((w.alloc (.cells #[.string ⟨#[73, 110, 116]⟩, .int .i64 2, .int .i64 0] 26)).alloc (.cells #[.int .i64 2, .int .i64 1, .string ⟨#[]⟩, .slice none 0 0, .slice none 0 0] 30)).alloc (.cells #[.int .i64 8, .int .i64 0, .string ⟨#[97]⟩, .slice none 0 0, .slice none 0 0] 30)).heap[w.heap.size + 1 + 1]? = some (.cells #[.int .i64 8, .int .i64 0, .string ⟨#[97]⟩, .slice none 0 0, .slice none 0 0] 30 (0, 0)) := by
    have := heap_two (w.alloc (.cells #[.string ⟨#[73, 110, 116]⟩, .int .i64 2, .int .i64 0] 26)) (.cells #[.int .i64 2, .int .i64 1, .string ⟨#[]⟩, .slice none 0 0, .slice none 0 0] 30) (.cells #[.int .i64 8, .int .i64 0, .string ⟨#[97]⟩, .slice none 0 0, .slice none 0 0] 30)
    simpa using this
  have hb1 : Below w.heap.size w (((w.alloc (.cells #[.string ⟨#[73, 110, 116]⟩, .int .i64 2, .int .i64 0] 26)).alloc (.cells #[.int .i64 2, .int .i64 1, .string ⟨#[]⟩, .slice none 0 0, .slice none 0 0] 30)).alloc (.cells #[.int .i64 8, .int .i64 0, .string ⟨#[97]⟩, .slice none 0 0, .slice none 0 0] 30)) := (two_below w _ _).alloc (by simp; omega) _
  generalize ((w.alloc (.cells #[.string ⟨#[73, 110, 116]⟩, .int .i64 2, .int .i64 0] 26)).alloc (.cells #[.int .i64 2, .int .i64 1, .string ⟨#[]⟩, .slice none 0 0, .slice none 0 0] 30)).alloc (.cells #[.int .i64 8, .int .i64 0, .string ⟨#[97]⟩, .slice none 0 0, .slice none 0 0] 30) = w1 at h0 h1 h2 hb1 ⊢
  refine (sp_awake w1 (w.heap.size + 1 + 1) _ h2).mono ?_
  rintro e w2 ⟨b, c, rfl, ⟨p0, p2, p4⟩, hb2⟩
  have B2 := Lib.hid (hb1.trans (hb2.mono hb1.size))
  have H0 := Lib.hid ((hb2.block _ (Array.getElem?_eq_some_iff.1 h0).1).trans h0)
  have H1 := Lib.hid ((hb2.block _ (Array.getElem?_eq_some_iff.1 h1).1).trans h1)
  have HP := Lib.hid (And.intro p0 (And.intro p2 p4))
  clear h0 h1 h2 hb1 hb2 p0 p2 p4
  generalize w.heap.size + 1 + 1 = gv
  generalize w.heap.size + 1 = g1 at H1 ⊢
  generalize hg0 : w.heap.size = g0 at H0 ⊢
  have HG0 := Lib.hid hg0
  clear hg0
  obtain ⟨x0, x1, x2⟩ := three_cells H0.out
  obtain ⟨y0, y1, y2, y3, y4⟩ := five_box H1.out
  go_wp2_with fail
  refine (ri_one w2 (HW.out.below B2.out)).mono ?_
  rintro e w3 ⟨rfl, hb3⟩
  have B3 := Lib.hid (B2.out.trans (hb3.mono B2.out.size))
  have H0' := Lib.hid ((hb3.block _ (Array.getElem?_eq_some_iff.1 H0.out).1).trans H0.out)
  have H1' := Lib.hid ((hb3.block _ (Array.getElem?_eq_some_iff.1 H1.out).1).trans H1.out)
  have hbl := World.block_lt_of_cell? w2 _ HP.out.1
  have HP' := Lib.hid (And.intro ((hb3.cell (p := ⟨b, 0, none⟩) hbl).trans HP.out.1) (And.intro ((hb3.cell (p := ⟨b, 2, none⟩) hbl).trans HP.out.2.1) ((hb3.cell (p := ⟨b, 4, none⟩) hbl).trans HP.out.2.2)))
  clear x0 x1 x2 y0 y1 y2 y3 y4 hb3 hbl H0 H1 HP
  obtain ⟨x0, x1, x2⟩ := three_cells H0'.out
  obtain ⟨y0, y1, y2, y3, y4⟩ := five_box H1'.out
  go_wp2_with fail
  have h5 := heap_alloc_new w3 (.cells #[.int .i64 2, .int .i64 1, .string ⟨#[]⟩, .slice none 0 0, .slice none 0 0] 30)
  have hb4 := dbelow_new w3 (.cells #[.int .i64 2, .int .i64 1, .string ⟨#[]⟩, .slice none 0 0, .slice none 0 0] 30)
  refine (ri_lst _ (HW.out.below (B3.out.trans (hb4.mono B3.out.size))) w3.heap.size _ h5).mono ?_
  rintro e w5 ⟨rfl, hb5⟩
  have B5 := Lib.hid ((B3.out.trans (hb4.mono B3.out.size)).trans (hb5.mono (Nat.le_trans B3.out.size hb4.size)))
  have hb35 := hb4.trans (hb5.mono hb4.size)
  have hbl := World.block_lt_of_cell? w3 _ HP'.out.1
  have p0 := (hb35.cell (p := ⟨b, 0, none⟩) hbl).trans HP'.out.1
  have p2 := (hb35.cell (p := ⟨b, 2, none⟩) hbl).trans HP'.out.2.1
  have p4 := (hb35.cell (p := ⟨b, 4, none⟩) hbl).trans HP'.out.2.2
  clear x0 x1 x2 y0 y1 y2 y3 y4 h5 hb4 hb5 hb35 hbl H0' H1' HP'
  go_wp2_with fail
  go_ret
  exact ⟨rfl, B5.out⟩
end Go.Proofs.YtmamgaifpjgfkaaGreatDoor
namespace Go.Proofs.YtmamgaifpjgfkaaGreatDoor
open Go.RowKit

/-- Some number. -/
def SomeI (w : World) (e : Ending) (w' : World) : Prop := ∃ k : Int, e = .returned (.int .i64 k) ∧ Below w.heap.size w w'
/-- Some answer. -/
def SomeB (w : World) (e : Ending) (w' : World) : Prop := ∃ b : Bool, e = .returned (.bool b) ∧ Below w.heap.size w w'
set_option maxRecDepth 100000 in
set_option maxHeartbeats 4000000 in
theorem ltexts_any (A : Option Addr) (n c : Nat) (xs : List ByteArray) (w : World) (hn : n ≤ 9223372036854775807) (ha : Blk.StrsAt w w.heap.size A n xs) :
    Calls Tryz.prog 43 #[.slice A n c] w (SomeI w) := by
  have HA := Lib.hid ha
  clear ha
  go_enter Tryz.func43, Tryz.ntmps43
  go_wp2_with fail
  go_loopg [3, 4] n (fun g t i wx => ∃ q : Nat, q + g = n ∧ i = .int .i64 q ∧ (∃ k : Int, t = .int .i64 k) ∧ Below w.heap.size w wx)
  case atStart => exact ⟨0, by omega, rfl, ⟨0, rfl⟩, Below.refl _ _⟩
  case round =>
    obtain ⟨q, hq, rfl, ⟨k, rfl⟩, hb⟩ := hrel
    have HBB := Lib.hid hb
    clear hb
    cases gk with
    | zero =>
      obtain rfl : q = n := by omega
      go_wp2_with fail
      go_ret
      exact ⟨_, rfl, HBB.out⟩
    | succ g =>
      have hlt : q < n := by omega
      have hlt' : (q : Int) < (n : Int) := by omega
      obtain ⟨x, hx⟩ : ∃ x, xs[q]? = some x := ⟨_, List.getElem?_eq_getElem (by rw [HA.out.1]; omega)⟩
      obtain ⟨b1, o1, rfl, hl1, c1⟩ := HA.out.2 q x hx
      have c1 := (HBB.out.cell (p := ⟨b1, o1 + q, none⟩) hl1).trans c1
      clear hx
      go_wp2_with fail
      first
        | (go_roundg g
           case measure => omega
           case rel => exact ⟨q + 1, by omega, by go_num, ⟨_, rfl⟩, HBB.out⟩)
        | (go_quiet (fail)
           go_wp2_with fail
           go_roundg g
           case measure => omega
           case rel => exact ⟨q + 1, by omega, by go_num, ⟨_, rfl⟩, Blk.below_draws HBB.out _⟩)
theorem par_at {w : World} {B : Nat} {l : List VarT} {A : Option Addr} {q : Nat} {x : VarT} (h : RowT w (fun b => b < B) (rowOf encVar l) A) (hx : l[q]? = some x) :
    ∃ b p d0 d1 d2 d3 d4, A = some ⟨b, p, none⟩ ∧ b < B ∧ w.cell? ⟨b, p + q * 10, none⟩ = some (.string x.name) ∧ Five w b (p + q * 10 + 5) d0 d1 d2 d3 d4 ∧ VAt w B x.v d0 d1 d2 d3 d4 := by
  obtain ⟨b, p, cs, e, hb, hc, h1⟩ := rowOf_at 10 (fun x => by unfold encVar; simp only [TrS.len, encV_len]) h hx
  simp only [encVar, TS, TP] at h1
  obtain ⟨c0, _, rfl, ⟨rfl, _⟩, c1, _, rfl, ⟨rfl, _⟩, c2, _, rfl, ⟨rfl, _⟩, c3, _, rfl, ⟨rfl, _⟩, c4, ys, rfl, ⟨rfl, _⟩, h2⟩ := h1
  obtain ⟨d0, d1, d2, d3, d4, rfl, hv⟩ := ts_vp _ _ h2
  exact ⟨b, p, d0, d1, d2, d3, d4, e, hb, hc 0 _ rfl, ⟨hc 5 _ rfl, hc 6 _ rfl, hc 7 _ rfl, hc 8 _ rfl, hc 9 _ rfl⟩, VP.at (fun _ h => h) _ _ _ _ _ _ hv⟩
/-- The cells that a round reads, and that nothing has turned. -/
def K6 (w : World) (b O : Nat) (nm d0 d1 d2 d3 d4 : Value) (W : World) : Prop := W.cell? ⟨b, O, none⟩ = some nm ∧ Five W b (O + 5) d0 d1 d2 d3 d4 ∧ Below w.heap.size w W
theorem K6.next {w W W' : World} {b O : Nat} {nm d0 d1 d2 d3 d4 : Value} (h : K6 w b O nm d0 d1 d2 d3 d4 W) (hl : b < w.heap.size) (hb : Below W.heap.size W W') : K6 w b O nm d0 d1 d2 d3 d4 W' := by
  obtain ⟨hn, hF, hK⟩ := h
  have g := Nat.lt_of_lt_of_le hl hK.size
  exact ⟨(hb.cell (p := ⟨b, _, none⟩) g).trans hn, hF.below hb g, hK.trans (hb.mono hK.size)⟩
theorem K6.written {w W : World} {b O : Nat} {nm d0 d1 d2 d3 d4 : Value} (h : K6 w b O nm d0 d1 d2 d3 d4 W) : W.cell? ⟨b, O, none⟩ = some nm ∧ W.cell? ⟨b, O + 5, none⟩ = some d0 ∧ W.cell? ⟨b, O + 5 + 1, none⟩ = some d1 ∧ W.cell? ⟨b, O + 5 + 2, none⟩ = some d2 ∧ W.cell? ⟨b, O + 5 + 3, none⟩ = some d3 ∧ W.cell? ⟨b, O + 5 + 4, none⟩ = some d4 ∧ K6 w b O nm d0 d1 d2 d3 d4 W :=
  ⟨h.1, h.2.1.1, h.2.1.2.1, h.2.1.2.2.1, h.2.1.2.2.2.1, h.2.1.2.2.2.2, h⟩
theorem K6.below {w W : World} {b O : Nat} {nm d0 d1 d2 d3 d4 : Value} (h : K6 w b O nm d0 d1 d2 d3 d4 W) : Below w.heap.size w W := h.2.2
set_option maxRecDepth 100000 in
set_option maxHeartbeats 4000000 in
theorem lparams_any (l : List VarT) (A : Option Addr) (c : Nat) (w : World) (B : Nat) (hB : B ≤ w.heap.size) (hn : l.length ≤ 9223372036854775807) (hR : RowT w (fun b => b < B) (rowOf encVar l) A) :
    Calls Tryz.prog 44 #[.slice A l.length c] w (SomeI w) := by
  have HR := Lib.hid hR
  have HB0 := Lib.hid hB
  clear hR hB
  go_enter Tryz.func44, Tryz.ntmps44
  go_wp2_with fail
  go_loopg [3, 4] l.length (fun g t i wx => ∃ q : Nat, q + g = l.length ∧ i = .int .i64 q ∧ (∃ k : Int, t = .int .i64 k) ∧ Below w.heap.size w wx)
  case atStart => exact ⟨0, by omega, rfl, ⟨0, rfl⟩, Below.refl _ _⟩
  case round =>
    obtain ⟨q, hq, rfl, ⟨k, rfl⟩, hb⟩ := hrel
    have HBB := Lib.hid hb
    clear hb
    cases gk with
    | zero =>
      obtain rfl : q = l.length := by omega
      go_wp2_with fail
      go_ret
      exact ⟨_, rfl, HBB.out⟩
    | succ g =>
      have hqn : q < l.length := by omega
      have hqn' : (q : Int) < (l.length : Int) := by omega
      obtain ⟨x, hx⟩ : ∃ x, l[q]? = some x := ⟨_, List.getElem?_eq_getElem hqn⟩
      obtain ⟨b, p, d0, d1, d2, d3, d4, rfl, hlt, hnm, hF, hV⟩ := par_at (RowT.below (HBB.out.mono HB0.out) HR.out) hx
      have HBX := Nat.le_trans HB0.out HBB.out.size
      have HBW : Hid (b < wr.heap.size) := Lib.hid (Nat.lt_of_lt_of_le hlt HBX)
      have hE : K6 wr b (p + q * 10) (.string x.name) d0 d1 d2 d3 d4 wr := ⟨hnm, hF, Below.refl _ _⟩
      obtain ⟨f0, f1, f2, f3, f4, f5, _⟩ := hE.written
      have C := fun (wx : World) (hx : Below wr.heap.size wr wx) => Lib.hid (vsize_any _ x.v (Nat.le_refl _) d0 d1 d2 d3 d4 wx B (Nat.le_trans HBX hx.size) (VAt.below (hx.mono HBX) _ _ _ _ _ _ hV))
      clear hV hF hnm hx hlt HBX
      go_wp2_with fail
      go_region_held3 (fun w' => w'.cell? ⟨b, p + q * 10, none⟩ = some (.string x.name) ∧ w'.cell? ⟨b, p + q * 10 + 5, none⟩ = some d0 ∧ w'.cell? ⟨b, p + q * 10 + 5 + 1, none⟩ = some d1 ∧ w'.cell? ⟨b, p + q * 10 + 5 + 2, none⟩ = some d2 ∧ w'.cell? ⟨b, p + q * 10 + 5 + 3, none⟩ = some d3 ∧ w'.cell? ⟨b, p + q * 10 + 5 + 4, none⟩ = some d4 ∧ K6 wr b (p + q * 10) (.string x.name) d0 d1 d2 d3 d4 w')
        (first
          | exact K6.written (hE.next HBW.out (Below.drew (Below.refl _ _)))
          | exact K6.written ((hE.next HBW.out (Below.drew (Below.refl _ _))).next HBW.out (by assumption))
          | exact K6.written (hE.next HBW.out (by assumption))
          | exact K6.written (K6.next (by assumption) HBW.out (by assumption))
          | go_keep)
        ((first | (go_at_call 29; refine (C _ (by first | exact Below.drew (Below.refl _ _) | exact K6.below (by assumption))).out.mono ?_; rintro e w' ⟨rfl, hb⟩)))
      all_goals
        have HK : K6 wr b (p + q * 10) (.string x.name) d0 d1 d2 d3 d4 w' := And.right (And.right (And.right (And.right (And.right (And.right (by assumption))))))
        have HKB := Lib.hid (HBB.out.trans (HK.2.2.mono HBB.out.size))
        clear HK hE C f0 f1 f2 f3 f4 f5
        go_wp2_with fail
        go_roundg g
        case measure => omega
        case rel => exact ⟨q + 1, by omega, by go_num, ⟨_, rfl⟩, HKB.out⟩
/-- The same, of two cells. -/
def K2 (w : World) (b O : Nat) (nm v : Value) (W : World) : Prop := W.cell? ⟨b, O, none⟩ = some nm ∧ W.cell? ⟨b, O + 1, none⟩ = some v ∧ Below w.heap.size w W
theorem K2.next {w W W' : World} {b O : Nat} {nm v : Value} (h : K2 w b O nm v W) (hl : b < w.heap.size) (hb : Below W.heap.size W W') : K2 w b O nm v W' := by
  obtain ⟨hn, hF, hK⟩ := h
  have g := Nat.lt_of_lt_of_le hl hK.size
  exact ⟨(hb.cell (p := ⟨b, _, none⟩) g).trans hn, (hb.cell (p := ⟨b, _, none⟩) g).trans hF, hK.trans (hb.mono hK.size)⟩
theorem K2.written {w W : World} {b O : Nat} {nm v : Value} (h : K2 w b O nm v W) : W.cell? ⟨b, O, none⟩ = some nm ∧ W.cell? ⟨b, O + 1, none⟩ = some v ∧ K2 w b O nm v W := ⟨h.1, h.2.1, h⟩
theorem K2.below {w W : World} {b O : Nat} {nm v : Value} (h : K2 w b O nm v W) : Below w.heap.size w W := h.2.2
set_option maxRecDepth 100000 in
set_option maxHeartbeats 4000000 in
theorem ldirs_any (l : List DirT) (A : Option Addr) (c : Nat) (w : World) (B : Nat) (hB : B ≤ w.heap.size) (hn : l.length ≤ 9223372036854775807) (hR : RowT w (fun b => b < B) (rowOf encD l) A) :
    Calls Tryz.prog 45 #[.slice A l.length c] w (SomeI w) := by
  have HR := Lib.hid hR
  have HB0 := Lib.hid hB
  clear hR hB
  go_enter Tryz.func45, Tryz.ntmps45
  go_wp2_with fail
  go_loopg [3, 4] l.length (fun g t i wx => ∃ q : Nat, q + g = l.length ∧ i = .int .i64 q ∧ (∃ k : Int, t = .int .i64 k) ∧ Below w.heap.size w wx)
  case atStart => exact ⟨0, by omega, rfl, ⟨0, rfl⟩, Below.refl _ _⟩
  case round =>
    obtain ⟨q, hq, rfl, ⟨k, rfl⟩, hb⟩ := hrel
    have HBB := Lib.hid hb
    clear hb
    cases gk with
    | zero =>
      obtain rfl : q = l.length := by omega
      go_wp2_with fail
      go_ret
      exact ⟨_, rfl, HBB.out⟩
    | succ g =>
      have hqn : q < l.length := by omega
      have hqn' : (q : Int) < (l.length : Int) := by omega
      obtain ⟨⟨nm, m⟩, hx⟩ : ∃ x, l[q]? = some x := ⟨_, List.getElem?_eq_getElem hqn⟩
      obtain ⟨b, p, A2, k2, rfl, hlt, hnm, hF, hml, hV⟩ := dir_at (RowT.below (HBB.out.mono HB0.out) HR.out) hx
      have HBX := Nat.le_trans HB0.out HBB.out.size
      have HBW : Hid (b < wr.heap.size) := Lib.hid (Nat.lt_of_lt_of_le hlt HBX)
      have hE : K2 wr b (p + q * 2) (.string nm) (.slice A2 m.len k2) wr := ⟨hnm, hF, Below.refl _ _⟩
      obtain ⟨f0, f1, _⟩ := hE.written
      have C := fun (wx : World) (hx : Below wr.heap.size wr wx) => Lib.hid (vsize_any _ (.mk 0 0 ⟨#[]⟩ .nil m) (Nat.le_refl _) (.int .i64 0) (.int .i64 0) (.string ⟨#[]⟩) (.slice none 0 0) (.slice A2 m.len k2) wx B (Nat.le_trans HBX hx.size) (by
        unfold VAt
        exact ⟨rfl, rfl, rfl, by decide, ⟨none, 0, rfl, by simp [VL.len], by unfold LAt; trivial⟩, A2, k2, rfl, hml, MAt.below (hx.mono HBX) _ _ _ hV⟩))
      clear hV hF hnm hx hlt HBX hml
      go_wp2_with fail
      go_region_held3 (fun w' => w'.cell? ⟨b, p + q * 2, none⟩ = some (.string nm) ∧ w'.cell? ⟨b, p + q * 2 + 1, none⟩ = some (.slice A2 m.len k2) ∧ K2 wr b (p + q * 2) (.string nm) (.slice A2 m.len k2) w')
        (first
          | exact K2.written (hE.next HBW.out (Below.drew (Below.refl _ _)))
          | exact K2.written ((hE.next HBW.out (Below.drew (Below.refl _ _))).next HBW.out (by assumption))
          | exact K2.written (hE.next HBW.out (by assumption))
          | exact K2.written (K2.next (by assumption) HBW.out (by assumption))
          | go_keep)
        ((first | (go_at_call 29; refine (C _ (by first | exact Below.drew (Below.refl _ _) | exact K2.below (by assumption))).out.mono ?_; rintro e w' ⟨rfl, hb⟩)))
      all_goals
        have HK : K2 wr b (p + q * 2) (.string nm) (.slice A2 m.len k2) w' := And.right (And.right (by assumption))
        have HKB := Lib.hid (HBB.out.trans (HK.2.2.mono HBB.out.size))
        clear HK hE C f0 f1
        go_wp2_with fail
        go_roundg g
        case measure => omega
        case rel => exact ⟨q + 1, by omega, by go_num, ⟨_, rfl⟩, HKB.out⟩
end Go.Proofs.YtmamgaifpjgfkaaGreatDoor
namespace Go.Proofs.YtmamgaifpjgfkaaGreatDoor
open Go.RowKit

theorem field_at {w : World} {P : Nat → Prop} {l : List FieldT} {A : Option Addr} {q : Nat} {d : FieldT} (h : RowT w P (rowOf encField l) A) (hx : l[q]? = some d) :
    ∃ b p c0 c1 c2 c3 c4 c5, A = some ⟨b, p, none⟩ ∧ P b ∧ (w.cell? ⟨b, p + q * 6, none⟩ = some c0 ∧ w.cell? ⟨b, p + q * 6 + 1, none⟩ = some c1 ∧ w.cell? ⟨b, p + q * 6 + 2, none⟩ = some c2 ∧ w.cell? ⟨b, p + q * 6 + 3, none⟩ = some c3 ∧ w.cell? ⟨b, p + q * 6 + 4, none⟩ = some c4 ∧ w.cell? ⟨b, p + q * 6 + 5, none⟩ = some c5) ∧ TS w P (encField d) [c0, c1, c2, c3, c4, c5] := by
  obtain ⟨b, p, cs, e, hb, hc, h1⟩ := rowOf_at 6 (fun _ => rfl) h hx
  obtain ⟨Ap, kp, Ad, kd, rfl, _⟩ := fld_cells h1
  exact ⟨b, p, _, _, _, _, _, _, e, hb, ⟨hc 0 _ rfl, hc 1 _ rfl, hc 2 _ rfl, hc 3 _ rfl, hc 4 _ rfl, hc 5 _ rfl⟩, h1⟩
end Go.Proofs.YtmamgaifpjgfkaaGreatDoor
