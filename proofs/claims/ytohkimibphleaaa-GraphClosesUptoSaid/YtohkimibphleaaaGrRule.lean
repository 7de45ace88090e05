/- graph.Rule 2 of two operations without a name. -/
import Derived.Test.YtohkimibphleaaaGrSpr
namespace Go.Proofs.Ytohkimibphleaaa
open Go.RowKit

set_option maxRecDepth 100000 in
set_option maxHeartbeats 4000000 in
theorem isnl_any (k : Int) (v2 v3 v4 : Value) (w : World) : Calls Try.prog 38 #[.agg #[.int .i64 k, .string ⟨#[]⟩, v2, v3, v4]] w fun e w' => e = .returned (.bool true) ∧ Below w.heap.size w w' := by
  go_enter Try.func38, Try.ntmps38
  go_wp2_with fail
  go_ret
  exact ⟨rfl, gnew _ _⟩
def NlAt (w : World) (b o : Nat) : Prop := ∃ (k : Int) (v2 v3 v4 : Value), w.cell? ⟨b, o, none⟩ = some (.int .i64 k) ∧ w.cell? ⟨b, o + 1, none⟩ = some (.string ⟨#[]⟩) ∧ w.cell? ⟨b, o + 2, none⟩ = some v2 ∧ w.cell? ⟨b, o + 3, none⟩ = some v3 ∧ w.cell? ⟨b, o + 4, none⟩ = some v4
set_option maxRecDepth 100000 in
set_option maxHeartbeats 4000000 in
theorem indexf_any (b o n c : Nat) (hn : 0 < n) (w : World) (h : NlAt w b o) : Calls Try.prog 39 #[.slice (some ⟨b, o, none⟩) n c, .func (.func 38) #[] #[]] w fun e w' => e = .returned (.int .i64 0) ∧ Below w.heap.size w w' := by
  have H := Lib.hid h
  have hn' : (0 : Int) < (n : Int) := by omega
  clear h
  go_enter Try.func39, Try.ntmps39
  go_wp2_with fail
  go_loopg [8] 1 (fun g t wx => g = 1 ∧ t = .int .i64 0 ∧ Asd (wx = w))
  case atStart => exact ⟨rfl, rfl, Asd.intro rfl⟩
  case round =>
    obtain ⟨rfl, rfl, HX⟩ := hrel
    have hx := HX.out
    subst hx
    obtain ⟨k, v2, v3, v4, c0, c1, c2, c3, c4⟩ := H.out
    clear HX
    go_wp2_with fail
    refine (isnl_any k v2 v3 v4 wr).mono ?_
    rintro e w2 ⟨rfl, hb⟩
    have HB := Lib.hid hb
    clear hb
    go_wp2_with fail
    go_ret
    exact ⟨rfl, HB.out⟩
set_option maxRecDepth 100000 in
theorem containsf_any (b o n c : Nat) (hn : 0 < n) (w : World) (h : NlAt w b o) : Calls Try.prog 27 #[.slice (some ⟨b, o, none⟩) n c, .func (.func 38) #[] #[]] w fun e w' => e = .returned (.bool true) ∧ Below w.heap.size w w' := by
  go_enter Try.func27, Try.ntmps27
  go_wp2_with fail
  refine (indexf_any b o n c hn w h).mono ?_
  rintro e w2 ⟨rfl, hb⟩
  have HB := Lib.hid hb
  clear hb
  go_wp2_with fail
  go_ret
  exact ⟨rfl, HB.out⟩
theorem NlAt.below {w w' : World} {b o : Nat} (h : NlAt w b o) (hb : Below w.heap.size w w') : NlAt w' b o := by
  obtain ⟨k, v2, v3, v4, c0, c1, c2, c3, c4⟩ := h
  have hl := World.block_lt_of_cell? w _ c0
  have hc := fun i => hb.cell (p := ⟨b, i, none⟩) hl
  exact ⟨k, v2, v3, v4, (hc _).trans c0, (hc _).trans c1, (hc _).trans c2, (hc _).trans c3, (hc _).trans c4⟩
set_option maxRecDepth 100000 in
set_option maxHeartbeats 4000000 in
theorem chosen_any (b o c : Nat) (v : Value) (w : World) (h : NlAt w b o) : Calls Try.prog 26 #[.agg #[.slice (some ⟨b, o, none⟩) 2 c, v]] w fun e w' => e = .returned (.bool false) ∧ Below w.heap.size w w' := by
  have H := Lib.hid (fun (wx : World) (hb : Below w.heap.size w wx) => containsf_any b o 2 c (by decide) wx (h.below hb))
  clear h
  go_enter Try.func26, Try.ntmps26
  go_wp2_with fail
  refine (H.out _ (gnew _ _)).mono ?_
  rintro e w2 ⟨rfl, hb⟩
  have HB := Lib.hid ((gnew w (.cells #[.slice (some ⟨b, o, none⟩) 2 c, v] 25)).trans (hb.mono (by simp)))
  clear hb
  go_wp2_with fail
  go_ret
  exact ⟨rfl, HB.out⟩
set_option maxRecDepth 100000 in
set_option maxHeartbeats 4000000 in
theorem rule2_any (b o c : Nat) (s0 s1 s2 v : Value) (w : World) (h : NlAt w b o) : Calls Try.prog 15 #[.agg #[s0, s1, s2], .agg #[.slice (some ⟨b, o, none⟩) 2 c, v], .int .i64 2] w fun e w' => e = .returned (.bool false) ∧ Below w.heap.size w w' := by
  have hb2 : Below w.heap.size w ((w.alloc (.cells #[s0, s1, s2] 59)).alloc (.cells #[.slice (some ⟨b, o, none⟩) 2 c, v] 25)) := ((Below.refl _ _).alloc (Nat.le_refl _) _).alloc (by simp) _
  have H := Lib.hid (chosen_any b o c v _ (h.below hb2))
  have HB2 := Lib.hid hb2
  clear h hb2
  go_enter Try.func15, Try.ntmps15
  go_wp2_with fail
  refine H.out.mono ?_
  rintro e w2 ⟨rfl, hb⟩
  have HB := Lib.hid (HB2.out.trans (hb.mono HB2.out.size))
  clear hb
  go_wp2_with fail
  go_ret
  exact ⟨rfl, HB.out⟩
end Go.Proofs.Ytohkimibphleaaa
