/- The law's own example. -/
import Derived.Test.YtcdcfhplkimecaaDoorVTokens
namespace Go.Proofs.YtcdcfhplkimecaaDoor
open Go.RowKit

def exInt : VT := .mk 2 1 ⟨#[]⟩ .nil .nil
def exVar : VT := .mk 8 0 ⟨#[97]⟩ .nil .nil
def exV : VT := .mk 6 0 ⟨#[]⟩ (.cons exInt (.cons exVar .nil)) .nil
def exEnum : VT := .mk 5 0 ⟨#[116, 114, 117, 101]⟩ .nil .nil
theorem ex_plain : plainB exV = true := by decide +kernel
theorem ex_good : fitV goodB exV = true := by decide +kernel
theorem ex_bad : fitV goodB exEnum = false := by decide +kernel
theorem ex_dep : depV exV = 1 := by decide +kernel
theorem ex_size : sizeV exV ≤ 9000 := by decide +kernel
theorem ex_size2 : sizeV exEnum ≤ 9000 := by decide +kernel
theorem ex_rng : RngV exV := by
  unfold exV RngV
  refine ⟨by omega, ?_, by unfold RngM; trivial⟩
  unfold RngL
  refine ⟨by unfold exInt RngV; exact ⟨by omega, by unfold RngL; trivial, by unfold RngM; trivial⟩, ?_⟩
  unfold RngL
  exact ⟨by unfold exVar RngV; exact ⟨by omega, by unfold RngL; trivial, by unfold RngM; trivial⟩, by unfold RngL; trivial⟩
theorem ex_toks : toksV exV = [(1, openT), (3, itoaT 1), (1, dollarT), (2, ⟨#[97]⟩), (1, shutT)] := by
  unfold toksV
  rw [ex_plain, if_pos rfl]
  unfold exV exInt exVar
  rw [vtok6, vtokL, vtokL, vtokL, vtok2, vtok8]
  rfl
theorem leafAt (w : World) (B : Nat) (k n : Int) (s : ByteArray) (hs : s.size ≤ 9223372036854775807) : VAt w B (.mk k n s .nil .nil) (.int .i64 k) (.int .i64 n) (.string s) (.slice none 0 0) (.slice none 0 0) := by
  unfold VAt
  exact ⟨rfl, rfl, rfl, hs, ⟨none, 0, rfl, by simp [VL.len], by unfold LAt; trivial⟩, none, 0, rfl, by simp [VM.len], by unfold MAt; trivial⟩
abbrev exCells : Array Value := #[.int .i64 2, .int .i64 1, .string ⟨#[]⟩, .slice none 0 0, .slice none 0 0, .int .i64 8, .int .i64 0, .string ⟨#[97]⟩, .slice none 0 0, .slice none 0 0]
theorem exAt (w : World) (t : TypeId) : VAt (w.alloc (.cells exCells t)) (w.heap.size + 1) exV (.int .i64 6) (.int .i64 0) (.string ⟨#[]⟩) (.slice (some ⟨w.heap.size, 0, none⟩) 2 2) (.slice none 0 0) := by
  unfold exV VAt
  refine ⟨rfl, rfl, rfl, by decide, ⟨some ⟨w.heap.size, 0, none⟩, 2, rfl, by decide, ?_⟩, none, 0, rfl, by decide, by unfold MAt; trivial⟩
  unfold LAt
  refine ⟨⟨w.heap.size, 0, _, _, _, _, _, rfl, Nat.lt_succ_self _, ⟨?_, ?_, ?_, ?_, ?_⟩, by unfold exInt; exact leafAt _ _ 2 1 ⟨#[]⟩ (by decide)⟩, ?_⟩
  · rw [World.cell?_alloc_at _ _ _ _ rfl]; rfl
  · rw [World.cell?_alloc_at _ _ _ _ rfl]; rfl
  · rw [World.cell?_alloc_at _ _ _ _ rfl]; rfl
  · rw [World.cell?_alloc_at _ _ _ _ rfl]; rfl
  · rw [World.cell?_alloc_at _ _ _ _ rfl]; rfl
  unfold LAt
  refine ⟨⟨w.heap.size, 0, _, _, _, _, _, rfl, Nat.lt_succ_self _, ⟨?_, ?_, ?_, ?_, ?_⟩, by unfold exVar; exact leafAt _ _ 8 0 ⟨#[97]⟩ (by decide)⟩, ?_⟩
  · rw [World.cell?_alloc_at _ _ _ _ rfl]; rfl
  · rw [World.cell?_alloc_at _ _ _ _ rfl]; rfl
  · rw [World.cell?_alloc_at _ _ _ _ rfl]; rfl
  · rw [World.cell?_alloc_at _ _ _ _ rfl]; rfl
  · rw [World.cell?_alloc_at _ _ _ _ rfl]; rfl
  unfold LAt
  trivial
/-- A cell of an owned row of tokens. -/
theorem TR.at {base : Nat} {w : World} {V : Value} {ts : List (Int × ByteArray)} (h : TR base w V ts) (hn : ts ≠ []) : ∃ g c, V = .slice (some ⟨g, 0, none⟩) ts.length c ∧ base ≤ g ∧ g < w.heap.size ∧ ∀ i u, (cellsT ts)[i]? = some u → w.cell? ⟨g, i, none⟩ = some u := by
  have h' := h
  unfold TR at h
  rcases h.2 with ⟨_, h0⟩ | ⟨g, cap, cur, hV, hb, hg, hcap, hm, hsz, htk⟩
  · exact absurd (List.eq_nil_of_length_eq_zero h0) hn
  · subst hV
    refine ⟨g, cap, rfl, hb, (h.lt g rfl).2, fun i u hi => ?_⟩
    have hil := (List.getElem?_eq_some_iff.1 hi).1
    rw [cellsT_len] at hil
    rw [World.ownsRow.cellAt h i hil, hi]
set_option maxRecDepth 100000 in
set_option maxHeartbeats 4000000 in
theorem vawake_any (w : World) (hw : Laid5 w) : Calls Tryd.prog 9 #[] w fun e w' => e = .returned (.bool true) ∧ Below w.heap.size w w' := by
  have hn1 := alloc_same w (.cells exCells 25)
  have hX1 := exAt w 25
  have hs1 : (w.alloc (.cells exCells 25)).heap.size = w.heap.size + 1 := by simp
  have hn2 := alloc_same (w.alloc (.cells exCells 25)) (.cells #[.int .i64 6, .int .i64 0, .string ⟨#[]⟩, .slice (some ⟨w.heap.size, 0, none⟩) 2 2, .slice none 0 0] 25)
  have HN := Lib.hid (two_below hn1 hn2)
  have hX2 := Lib.hid (VAt.below (hn2.mono (by omega)) _ _ _ _ _ _ hX1)
  have hF := Lib.hid (five_at_new (w.alloc (.cells exCells 25)) (.int .i64 6) (.int .i64 0) (.string ⟨#[]⟩) (.slice (some ⟨w.heap.size, 0, none⟩) 2 2) (.slice none 0 0) 25 (n := w.heap.size + 1) hs1.symm)
  have hs2 : Hid (((w.alloc (.cells exCells 25)).alloc (.cells #[.int .i64 6, .int .i64 0, .string ⟨#[]⟩, .slice (some ⟨w.heap.size, 0, none⟩) 2 2, .slice none 0 0] 25)).heap.size = w.heap.size + 2) := Lib.hid (by simp)
  have HW := Lib.hid hw
  have T := fun (wx : World) (hx : w.heap.size + 1 ≤ wx.heap.size) (hv : VAt wx (w.heap.size + 1) exV (.int .i64 6) (.int .i64 0) (.string ⟨#[]⟩) (.slice (some ⟨w.heap.size, 0, none⟩) 2 2) (.slice none 0 0)) (hl : Laid5 wx) => Lib.hid (tokens_any exV ex_size ex_rng _ _ _ _ _ wx _ hx hv hl)
  have G := fun (wx : World) (hx : w.heap.size + 1 ≤ wx.heap.size) (hv : VAt wx (w.heap.size + 1) exV (.int .i64 6) (.int .i64 0) (.string ⟨#[]⟩) (.slice (some ⟨w.heap.size, 0, none⟩) 2 2) (.slice none 0 0)) (hl : Laid5 wx) => Lib.hid (by have h := vgood_any exV ex_size _ _ _ _ _ wx _ hx hv hl; rw [ex_good] at h; exact h)
  have D := fun (wx : World) (hx : w.heap.size + 1 ≤ wx.heap.size) (hv : VAt wx (w.heap.size + 1) exV (.int .i64 6) (.int .i64 0) (.string ⟨#[]⟩) (.slice (some ⟨w.heap.size, 0, none⟩) 2 2) (.slice none 0 0)) => Lib.hid (by have h := depth_any exV ex_size _ _ _ _ _ wx _ hx hv; rw [ex_dep] at h; exact h)
  have E := fun (wx : World) (hl : Laid5 wx) => Lib.hid (by have h := vgood_any exEnum ex_size2 _ _ _ _ _ wx 0 (Nat.zero_le _) (leafAt wx 0 5 0 ⟨#[116, 114, 117, 101]⟩ (by decide)) hl; rw [ex_bad] at h; exact h)
  clear hn1 hX1 hs1 hn2 hw
  go_enter Tryd.func9, Tryd.ntmps9
  go_wp2_with fail
  refine (T _ (by rw [hs2.out]; omega) hX2.out (HW.out.below HN.out)).out.mono ?_
  rintro e w2 ⟨V2, rfl, h2, hb2⟩
  rw [ex_plain]
  rw [ex_toks] at h2
  obtain ⟨g, c, rfl, hg0, hg1, hcell⟩ := h2.at (by simp)
  rw [hs2.out] at hg0
  have k5 : w2.cell? ⟨g, 5, none⟩ = some (.string ⟨#[36]⟩) := hcell 5 _ rfl
  have B2 := Lib.hid (two_below HN.out hb2)
  obtain ⟨y0, y1, y2, y3, y4⟩ := hF.out.below hb2 (by rw [hs2.out]; omega)
  have HF2 := Lib.hid (hF.out.below hb2 (by rw [hs2.out]; omega))
  have HX3 := Lib.hid (VAt.below (hb2.mono (by rw [hs2.out]; omega)) _ _ _ _ _ _ hX2.out)
  have hlt2 : w.heap.size + 1 < w2.heap.size := by have := hb2.size; rw [hs2.out] at this; omega
  have h5 : (Int.ofNat [(1, openT), (3, itoaT 1), (1, dollarT), ((2 : Int), (⟨#[97]⟩ : ByteArray)), (1, shutT)].length) = 5 := rfl
  clear h2 hb2 T hcell
  go_wp2_with fail
  refine (G _ (Nat.le_of_lt hlt2) HX3.out (HW.out.below B2.out)).out.mono ?_
  rintro e w3 ⟨rfl, hb3⟩
  have B3 := Lib.hid (two_below B2.out hb3)
  obtain ⟨z0, z1, z2, z3, z4⟩ := HF2.out.below hb3 hlt2
  have hlt3 := Nat.lt_of_lt_of_le hlt2 hb3.size
  have HX4 := Lib.hid (VAt.below (hb3.mono (Nat.le_of_lt hlt2)) _ _ _ _ _ _ HX3.out)
  clear hb3 G y0 y1 y2 y3 y4 k5
  go_wp2_with fail
  refine (D _ (Nat.le_of_lt hlt3) HX4.out).out.mono ?_
  rintro e w4 ⟨rfl, hb4⟩
  have B4 := Lib.hid (two_below B3.out hb4)
  clear hb4 D z0 z1 z2 z3 z4
  go_wp2_with fail
  refine (E _ (HW.out.below B4.out)).out.mono ?_
  rintro e w5 ⟨rfl, hb5⟩
  have B5 := Lib.hid (two_below B4.out hb5)
  clear hb5 E
  go_wp2_with fail
  go_ret
  exact ⟨rfl, B5.out⟩
end Go.Proofs.YtcdcfhplkimecaaDoor
