/- The page's example of graph, walked. -/
import Derived.Test.YtohkimibphleaaaGrAwake
namespace Go.Proofs.Ytohkimibphleaaa
open Go.RowKit

theorem gres_sch {fn : Func} {a : Act} {W : World} {x0 x1 x2 : Value} {b : Nat} (hf : fn.results = #[.cell 0 59]) (h2 : a.tmps.getD 0 undef = .pointer (some ⟨b, 0, none⟩)) (c0 : W.cell? ⟨b, 0, none⟩ = some x0) (c1 : W.cell? ⟨b, 1, none⟩ = some x1) (c2 : W.cell? ⟨b, 2, none⟩ = some x2) : (results fn a.tmps).run Try.prog W = .ok (.agg #[x0, x1, x2]) W := by
  have h2' : a.tmps[0]?.getD undef = .pointer (some ⟨b, 0, none⟩) := by rw [← h2]; simp
  have hu := Try.underlying59
  have hu0 := Try.underlying57
  have hu1 := Try.underlying9
  simp [results, hf, h2', asAddr, go_sem, c0, c1, c2]
theorem gres_doc {fn : Func} {a : Act} {W : World} {x0 x1 : Value} {b : Nat} (hf : fn.results = #[.cell 0 25]) (h2 : a.tmps.getD 0 undef = .pointer (some ⟨b, 0, none⟩)) (c0 : W.cell? ⟨b, 0, none⟩ = some x0) (c1 : W.cell? ⟨b, 1, none⟩ = some x1) : (results fn a.tmps).run Try.prog W = .ok (.agg #[x0, x1]) W := by
  have h2' : a.tmps[0]?.getD undef = .pointer (some ⟨b, 0, none⟩) := by rw [← h2]; simp
  have hu := Try.underlying25
  have hu0 := Try.underlying22
  have hu1 := Try.underlying23
  simp [results, hf, h2', asAddr, go_sem, c0, c1]
set_option maxRecDepth 100000 in
set_option maxHeartbeats 8000000 in
theorem world_any (w : World) : Calls Try.prog 16 #[] w fun e w' => (∃ s0 s1 s2, e = .returned (.agg #[s0, s1, s2])) ∧ Below w.heap.size w w' := by
  go_enter Try.func16, Try.ntmps16
  go_wp2_with fail
  have hb : ∀ (a b c : Obj) (W : World), W = ((w.alloc a).alloc b).alloc c → Below w.heap.size w W ∧ W.heap[w.heap.size]? = some a := by
    rintro a b c W rfl
    exact ⟨((gnew w a).alloc (by simp) _).alloc (by simp; omega) _, by rw [Below.heap_alloc _ _ _ (by simp; omega), Below.heap_alloc _ _ _ (by simp)]; exact heap_alloc_new _ _⟩
  obtain ⟨h1, h2⟩ := hb _ _ _ _ rfl
  obtain ⟨⟨c0, c1, c2⟩, _⟩ := gcells3 h2
  exact bodyPost_ret (gres_sch rfl rfl c0 c1 c2) rfl ⟨⟨_, _, _, rfl⟩, h1⟩
set_option maxRecDepth 100000 in
set_option maxHeartbeats 8000000 in
theorem two_any (w : World) : Calls Try.prog 17 #[] w fun e w' => (∃ b o, e = .returned (.agg #[.slice (some ⟨b, o, none⟩) 2 2, .slice none 0 0]) ∧ NlAt w' b o) ∧ Below w.heap.size w w' := by
  go_enter Try.func17, Try.ntmps17
  go_wp2_with fail
  have hb : ∀ (a b c : Obj) (W : World), W = ((w.alloc a).alloc b).alloc c → Below w.heap.size w W ∧ W.heap[w.heap.size]? = some a ∧ W.heap[w.heap.size + 1 + 1]? = some c := by
    rintro a b c W rfl
    refine ⟨((gnew w a).alloc (by simp) _).alloc (by simp; omega) _, by rw [Below.heap_alloc _ _ _ (by simp; omega), Below.heap_alloc _ _ _ (by simp)]; exact heap_alloc_new _ _, ?_⟩
    have h := heap_alloc_new ((w.alloc a).alloc b) c
    rw [World.size_alloc, World.size_alloc] at h
    exact h
  obtain ⟨h1, h2, h3⟩ := hb _ _ _ _ rfl
  obtain ⟨⟨c0, c1⟩, _⟩ := gcells2 h2
  refine bodyPost_ret (gres_doc rfl rfl c0 c1) rfl ⟨⟨_, _, rfl, ?_⟩, h1⟩
  refine ⟨0, .slice none 0 0, .slice none 0 0, .slice (some ⟨w.heap.size + 1, 0, none⟩) 1 1, ?_, ?_, ?_, ?_, ?_⟩
  · exact cells_at (l := [.int .i64 0, .string ⟨#[]⟩, .slice none 0 0, .slice none 0 0, .slice (some ⟨w.heap.size + 1, 0, none⟩) 1 1, .int .i64 0, .string ⟨#[]⟩, .slice none 0 0, .slice none 0 0, .slice (some ⟨w.heap.size + 1, 0, none⟩) 1 1]) h3 0 _ rfl
  · exact cells_at (l := [.int .i64 0, .string ⟨#[]⟩, .slice none 0 0, .slice none 0 0, .slice (some ⟨w.heap.size + 1, 0, none⟩) 1 1, .int .i64 0, .string ⟨#[]⟩, .slice none 0 0, .slice none 0 0, .slice (some ⟨w.heap.size + 1, 0, none⟩) 1 1]) h3 1 _ rfl
  · exact cells_at (l := [.int .i64 0, .string ⟨#[]⟩, .slice none 0 0, .slice none 0 0, .slice (some ⟨w.heap.size + 1, 0, none⟩) 1 1, .int .i64 0, .string ⟨#[]⟩, .slice none 0 0, .slice none 0 0, .slice (some ⟨w.heap.size + 1, 0, none⟩) 1 1]) h3 2 _ rfl
  · exact cells_at (l := [.int .i64 0, .string ⟨#[]⟩, .slice none 0 0, .slice none 0 0, .slice (some ⟨w.heap.size + 1, 0, none⟩) 1 1, .int .i64 0, .string ⟨#[]⟩, .slice none 0 0, .slice none 0 0, .slice (some ⟨w.heap.size + 1, 0, none⟩) 1 1]) h3 3 _ rfl
  · exact cells_at (l := [.int .i64 0, .string ⟨#[]⟩, .slice none 0 0, .slice none 0 0, .slice (some ⟨w.heap.size + 1, 0, none⟩) 1 1, .int .i64 0, .string ⟨#[]⟩, .slice none 0 0, .slice none 0 0, .slice (some ⟨w.heap.size + 1, 0, none⟩) 1 1]) h3 4 _ rfl
set_option maxRecDepth 100000 in
set_option maxHeartbeats 8000000 in
theorem awake_any (w : World) : Calls Try.prog 6 #[] w fun e w' => e = .returned (.bool true) ∧ Below w.heap.size w w' := by
  go_enter Try.func6, Try.ntmps6
  go_upto_region 3 with fail
  have hb : ∀ (a b c d : Obj) (W : World), W = (((w.alloc a).alloc b).alloc c).alloc d → Below w.heap.size w W ∧ W.heap.size = w.heap.size + 4 ∧ W.heap[w.heap.size]? = some a ∧ W.heap[w.heap.size + 1]? = some b ∧ W.heap[w.heap.size + 1 + 1]? = some c ∧ W.heap[w.heap.size + 1 + 1 + 1]? = some d := by
    rintro a b c d W rfl
    have h1 := heap_alloc_new (w.alloc a) b
    have h2 := heap_alloc_new ((w.alloc a).alloc b) c
    have h3 := heap_alloc_new (((w.alloc a).alloc b).alloc c) d
    rw [World.size_alloc] at h1
    rw [World.size_alloc, World.size_alloc] at h2
    rw [World.size_alloc, World.size_alloc, World.size_alloc] at h3
    refine ⟨(((gnew w a).alloc (by simp) _).alloc (by simp; omega) _).alloc (by simp; omega) _, by simp, ?_, ?_, ?_, h3⟩
    · rw [Below.heap_alloc _ _ _ (by simp; omega), Below.heap_alloc _ _ _ (by simp; omega), Below.heap_alloc _ _ _ (by simp)]; exact heap_alloc_new _ _
    · rw [Below.heap_alloc _ _ _ (by simp), Below.heap_alloc _ _ _ (by simp)]; exact h1
    · rw [Below.heap_alloc _ _ _ (by simp)]; exact h2
  have HB := hb (.cells csA.toArray 55) (.cells #[.string nmA, .string nmT, .slice none 0 0, .slice (some ⟨w.heap.size, 0, none⟩) 1 1] 30) (.cells #[.string nmA, .string nmT, .slice none 0 0, .slice (some ⟨w.heap.size, 0, none⟩) 1 1] 30) (.cells #[.slice none 0 0, .slice (some ⟨w.heap.size + 1 + 1, 0, none⟩) 1 1] 25) _ rfl
  clear hb
  obtain ⟨w1, hw1⟩ : ∃ W, (((w.alloc (.cells csA.toArray 55)).alloc (.cells #[.string nmA, .string nmT, .slice none 0 0, .slice (some ⟨w.heap.size, 0, none⟩) 1 1] 30)).alloc (.cells #[.string nmA, .string nmT, .slice none 0 0, .slice (some ⟨w.heap.size, 0, none⟩) 1 1] 30)).alloc (.cells #[.slice none 0 0, .slice (some ⟨w.heap.size + 1 + 1, 0, none⟩) 1 1] 25) = W := ⟨_, rfl⟩
  rw [hw1] at HB
  change Code.wp _ _ _ _ ((((w.alloc (.cells csA.toArray 55)).alloc (.cells #[.string nmA, .string nmT, .slice none 0 0, .slice (some ⟨w.heap.size, 0, none⟩) 1 1] 30)).alloc (.cells #[.string nmA, .string nmT, .slice none 0 0, .slice (some ⟨w.heap.size, 0, none⟩) 1 1] 30)).alloc (.cells #[.slice none 0 0, .slice (some ⟨w.heap.size + 1 + 1, 0, none⟩) 1 1] 25))
  rw [hw1]
  clear hw1
  obtain ⟨hlow, hsz, h0, h1, h2, h3⟩ := HB
  have DA := Lib.hid (docA_at (B := w1.heap.size) h0 h2 (by omega) (by omega))
  have SA := Lib.hid (selsA_at (B := w1.heap.size) h0 (by omega))
  have BL := Lib.hid hlow
  have H1 := Lib.hid h1
  have H3 := Lib.hid h3
  have RC := Lib.hid (reach_any docA _ _ (.cons selA .nil) (some ⟨w.heap.size, 0, none⟩) 1 w1 w1.heap.size w1.heap.size (Nat.le_refl _) (Nat.le_refl _) DA.out szA SA.out (Nat.le_refl _) (by show szSels (.cons selA .nil) ≤ _; rw [szSels, szSels, selA, szSel, szSels, sizeM]; decide))
  clear hlow h0 h2 hsz
  obtain ⟨⟨y0, y1, y2, y3⟩, _⟩ := gcells4 h1
  obtain ⟨⟨x0, x1⟩, _⟩ := gcells2 h3
  go_wp2_with fail
  refine RC.out.mono ?_
  rintro e w2 ⟨V, f, rfl, hf, hO, hb2⟩
  have hO : w2.ownsRow w1.heap.size 9 1 V (rchUp docA f 1).length ((rchUp docA f 1).map .string) := hO
  rw [rcA f hf] at hO
  obtain ⟨g, cp, rfl, _⟩ := World.ownsRow.form hO (by decide)
  have hc := hO.cells (g := g) rfl 0 (.string nmA) rfl
  rw [add_at, Nat.zero_add] at hc
  have OC := Lib.hid hc
  have OL := Lib.hid (World.block_lt_of_cell? w2 _ hc)
  have B2 := Lib.hid (BL.out.trans (hb2.mono BL.out.size))
  have H3 := Lib.hid ((hb2.block _ (Array.getElem?_eq_some_iff.1 H3.out).1).trans H3.out)
  have LA := Lib.hid (loops_any docA _ _ w2 w1.heap.size hb2.size (DA.out.below hb2) szA true lpA (by simp))
  clear hf hO hb2 hc RC DA SA H1 BL y0 y1 y2 y3 x0 x1 h1 h3
  obtain ⟨⟨x0, x1⟩, _⟩ := gcells2 H3.out
  have EM := Lib.hid (fun (wx : World) => loops_any ⟨[], []⟩ (.slice none 0 0) (.slice none 0 0) wx wx.heap.size (Nat.le_refl _) (docN_at wx _) (by decide) false (fun s h => by have h : s = newS 0 := h; rw [h]; rfl) (fun _ => rfl))
  go_wp2_with fail
  refine LA.out.mono ?_
  rintro e w3 ⟨rfl, hb3⟩
  have B3 := Lib.hid (B2.out.trans (hb3.mono B2.out.size))
  have c3 : w3.cell? ⟨g, 0, none⟩ = some (.string ⟨#[65]⟩) := (hb3.cell (p := ⟨g, 0, none⟩) OL.out).trans OC.out
  clear hb3 LA B2 H3 x0 x1
  go_wp2_with fail
  refine (EM.out _).mono ?_
  rintro e w4 ⟨rfl, hb4⟩
  have B4 := Lib.hid (B3.out.trans (hb4.mono B3.out.size))
  clear hb4 B3 EM
  go_wp2_with fail
  refine (world_any _).mono ?_
  rintro e w5 ⟨⟨s0, s1, s2, rfl⟩, hb5⟩
  have B5 := Lib.hid (B4.out.trans (hb5.mono B4.out.size))
  clear hb5 B4
  go_wp2_with fail
  refine (two_any _).mono ?_
  rintro e w6 ⟨⟨b, o, rfl, hN⟩, hb6⟩
  have B6 := Lib.hid (B5.out.trans (hb6.mono B5.out.size))
  have HN := Lib.hid hN
  clear hb6 B5 hN
  go_wp2_with fail
  refine (rule2_any b o 2 s0 s1 s2 (.slice none 0 0) _ HN.out).mono ?_
  rintro e w7 ⟨rfl, hb7⟩
  have B7 := Lib.hid (B6.out.trans (hb7.mono B6.out.size))
  clear hb7 B6
  go_wp2_with fail
  go_ret
  exact ⟨rfl, B7.out⟩
end Go.Proofs.Ytohkimibphleaaa
