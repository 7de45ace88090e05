/- graph's net.search. (gen_grnew.py wrote it.) -/
import Derived.Test.YtohkimibphleaaaGrSrch
namespace Go.Proofs.Ytohkimibphleaaa
open Go.RowKit

theorem gturns_new {W : World} {L g m : Nat} (h : W.heap[g]? = some (.cells (madeCells #[.int .i64 0] m) 3 (0, 0))) (hL : L ≤ g) (hm : m ≤ 1099511627776) : TurnsO W L g m (List.replicate m 0) := by
  refine ⟨List.length_replicate, by simp, .inr ⟨g, m, _, rfl, hL, h, Nat.le_refl _, by unfold maxLen; omega, by simp [madeCells], ?_⟩⟩
  rw [toList_madeCells_one, List.map_replicate, List.take_of_length_le (by simp)]
def newS (n : Nat) : SS := ⟨List.replicate n 0, List.replicate n 0, [], false⟩
theorem gmake_ints (m : Nat) (hm : m ≤ 1099511627776) (W : World) : (Instr.makeSlice 69 (.int .i64 (m : Int)) (.int .i64 (m : Int))).run Try.prog W = .ok (.slice (some ⟨W.heap.size, 0, none⟩) m m) (W.alloc (.cells (madeCells #[.int .i64 0] m) 3)) := by
  obtain ⟨i, z, hi, hz0, hz1, hz2, hz3⟩ := gint_row
  have hr := run_make (P := Try.prog) W 69 3 i z Try.underlying69 hi hz0 .i64 .i64 m m (by omega) (Int.le_refl _) (by rw [hz2]; omega) (by omega)
  have hzz : z = .int .i64 0 := by
    have h := hz0
    have e : (Try.prog.info? 3).bind (·.zero) = some (.int .i64 0) := by kernel_rfl
    rw [hi] at e
    exact Option.some.inj (h.symm.trans e)
  rw [hr, hz1, hzz]
  simp
  rfl
set_option maxRecDepth 100000 in
set_option maxHeartbeats 8000000 in
theorem search_any (M : Nat) (Aw : Option Addr) (cw : Nat) (ws : List (List Nat)) (w : World) (hW : WaysAt w w.heap.size Aw ws) (hln : ws.length ≤ 1099511627776) :
    Calls Try.prog 19 #[.agg #[.map (some M), .slice Aw ws.length cw]] w fun e w' => ∃ r gb ge, e = .returned (.pointer (some ⟨r, 0, none⟩)) ∧ SrchG w.heap.size r M gb ge Aw cw ws 1 (.slice none 0 0) (newS ws.length) w' ∧ w.heap.size ≤ r ∧ w.heap.size ≤ gb ∧ w.heap.size ≤ ge ∧ Below w.heap.size w w' := by
  obtain ⟨n, hn⟩ : ∃ n, w.heap.size = n := ⟨_, rfl⟩
  have HWA := Lib.hid hW
  rw [hn] at HWA
  have HN := Lib.hid hn
  have hms := fun (wx : World) => gmake_ints ws.length hln wx
  clear hW
  go_enter Try.func19, Try.ntmps19
  go_upto_region 1 with fail
  have B0 : Hid (Below n w (w.alloc (.cells #[.map (some M), .slice Aw ws.length cw] 65))) := Lib.hid (by rw [← hn]; exact gnew _ _)
  have i0 := heap_alloc_new w (.cells #[.map (some M), .slice Aw ws.length cw] 65)
  have hs0 : (w.alloc (.cells #[.map (some M), .slice Aw ws.length cw] 65)).heap.size = n + 1 := by simp [hn]
  rw [hn] at i0
  generalize w.alloc (.cells #[.map (some M), .slice Aw ws.length cw] 65) = w0 at B0 i0 hs0 ⊢
  clear hn
  obtain ⟨⟨y0, y1⟩, _⟩ := gcells2 i0
  refine wp_region_held_drew (S := fun w' => w'.cell? ⟨n, 0, none⟩ = some (.map (some M)) ∧ w'.cell? ⟨n, 1, none⟩ = some (.slice Aw ws.length cw)) (by kernel_rfl) ⟨y0, y1⟩ (fun hHeld => ?_)
  obtain ⟨w1, hw1⟩ : ∃ X, w0.drew = X := ⟨_, rfl⟩
  rw [hw1] at hHeld ⊢
  have hdw : Below w0.heap.size w0 w1 := by rw [← hw1]; exact gdrew w0
  have hs1 : w1.heap.size = n + 1 := by rw [← hw1]; exact hs0
  have B1 := Lib.hid (B0.out.trans (hdw.mono (by omega)))
  clear hw1
  have c1 := hHeld.1
  have d1 := hHeld.2
  refine wpAnyH_take (i := 0) (oi := _) (v := ?_) rfl (by kernel_rfl) (by kernel_rfl) (by kernel_rfl) (fun _ _ _ h => h) (Or.inl ⟨by rfl, ?_⟩) (by first | assumption | trivial) ?_
  rotate_left
  · (intro w hSw; (try dsimp only at hSw); go_simp; try with_reducible rfl)
  try simp only [Act.put, List.getElem_toArray, List.getElem_cons_zero, List.setIfInBounds_toArray, List.set_cons_zero, List.set_cons_succ]
  refine wpAnyH_take (i := 1) (oi := _) (v := ?_) rfl (by kernel_rfl) (by kernel_rfl) (by kernel_rfl) (fun _ _ _ h => h) (Or.inl ⟨by rfl, ?_⟩) (by first | assumption | trivial) ?_
  rotate_left
  · (intro w hSw; (try dsimp only at hSw); go_simp; try with_reducible rfl)
  try simp only [Act.put, List.getElem_toArray, List.getElem_cons_zero, List.getElem_cons_succ, List.setIfInBounds_toArray, List.set_cons_zero, List.set_cons_succ]
  refine wpAnyH_take (i := 2) (oi := _) (v := ?_) rfl (by kernel_rfl) (by kernel_rfl) (by kernel_rfl) (fun _ _ _ h => h) (Or.inl ⟨by rfl, ?_⟩) (by first | assumption | trivial) ?_
  rotate_left
  · (intro w hSw; (try dsimp only at hSw); go_simp; try with_reducible rfl)
  try simp only [Act.put, List.getElem_toArray, List.getElem_cons_zero, List.getElem_cons_succ, List.setIfInBounds_toArray, List.set_cons_zero, List.set_cons_succ]
  refine wpAnyH_take (i := 3) (oi := _) (v := ?_) rfl (by kernel_rfl) (by kernel_rfl) (by kernel_rfl) (fun _ _ _ h => h) (Or.inl ⟨by rfl, ?_⟩) (by first | assumption | trivial) ?_
  rotate_left
  · (intro w hSw; (try dsimp only at hSw); go_simp; try with_reducible rfl)
  try simp only [Act.put, List.getElem_toArray, List.getElem_cons_zero, List.getElem_cons_succ, List.setIfInBounds_toArray, List.set_cons_zero, List.set_cons_succ]
  refine wpAnyH_take (i := 5) (oi := _) (v := ?_) rfl (by kernel_rfl) (by kernel_rfl) (by kernel_rfl) (fun _ _ _ h => h) (Or.inl ⟨by rfl, ?_⟩) (by first | assumption | trivial) ?_
  rotate_left
  · (intro w hSw; (try dsimp only at hSw); go_simp; try with_reducible rfl)
  try simp only [Act.put, List.getElem_toArray, List.getElem_cons_zero, List.getElem_cons_succ, List.setIfInBounds_toArray, List.set_cons_zero, List.set_cons_succ]
  refine wpAnyH_take (i := 6) (oi := _) (v := ?_) rfl (by kernel_rfl) (by kernel_rfl) (by kernel_rfl) (fun _ _ _ h => h) (Or.inl ⟨by rfl, ?_⟩) (by first | assumption | trivial) ?_
  rotate_left
  · (intro w hSw; (try dsimp only at hSw); go_simp; try with_reducible rfl)
  try simp only [Act.put, List.getElem_toArray, List.getElem_cons_zero, List.getElem_cons_succ, List.setIfInBounds_toArray, List.set_cons_zero, List.set_cons_succ]
  refine wpAnyH_take (i := 7) (oi := _) (v := ?_) rfl (by kernel_rfl) (by kernel_rfl) (by kernel_rfl) (fun _ _ _ h => h) (Or.inl ⟨by rfl, ?_⟩) (by first | assumption | trivial) ?_
  rotate_left
  · (intro w hSw; (try dsimp only at hSw); go_simp; try with_reducible rfl)
  try simp only [Act.put, List.getElem_toArray, List.getElem_cons_zero, List.getElem_cons_succ, List.setIfInBounds_toArray, List.set_cons_zero, List.set_cons_succ]
  refine wpAnyH_ready (rs := [4, 8]) (by kernel_rfl) (by simp) ?_
  refine AllReadyH.cons (o := _) rfl (fun K hK => ?_) ?_
  · go_simp
    have hb2 := gnew w1 (.cells (madeCells #[.int .i64 0] ws.length) 3)
    have hs2 : (w1.alloc (.cells (madeCells #[.int .i64 0] ws.length) 3)).heap.size = n + 2 := by simp [hs1]
    have i2 := heap_alloc_new w1 (.cells (madeCells #[.int .i64 0] ws.length) 3)
    rw [hs1] at i2
    have c2 := (hb2.cell (p := ⟨n, 0, none⟩) (by show n < _; omega)).trans c1
    have d2 := (hb2.cell (p := ⟨n, 1, none⟩) (by show n < _; omega)).trans d1
    obtain ⟨w2, hw2⟩ : ∃ X, w1.alloc (.cells (madeCells #[.int .i64 0] ws.length) 3) = X := ⟨_, rfl⟩
    rw [hw2] at hb2 hs2 i2 c2 d2 ⊢
    have H2 := Lib.hid hw2
    clear hw2
    try rw [hs1]
    refine hK.out _ _ ⟨c2, d2⟩ (fun hHeld => ?_)
    clear hK K
    try simp only [Act.put, List.getElem_toArray, List.getElem_cons_zero, List.getElem_cons_succ, List.setIfInBounds_toArray, List.set_cons_zero, List.set_cons_succ]
    refine wpAnyH_ready (rs := [8]) (by kernel_rfl) (by simp) ?_
    refine AllReadyH.cons (o := _) rfl (fun K hK => ?_) AllReadyH.nil
    go_simp
    have hb3 := gnew w2 (.cells (madeCells #[.int .i64 0] ws.length) 3)
    have hs3 : (w2.alloc (.cells (madeCells #[.int .i64 0] ws.length) 3)).heap.size = n + 3 := by simp [hs2]
    have i3 := heap_alloc_new w2 (.cells (madeCells #[.int .i64 0] ws.length) 3)
    rw [hs2] at i3
    have c3 := (hb3.cell (p := ⟨n, 0, none⟩) (by show n < _; omega)).trans c2
    have d3 := (hb3.cell (p := ⟨n, 1, none⟩) (by show n < _; omega)).trans d2
    obtain ⟨w3, hw3⟩ : ∃ X, w2.alloc (.cells (madeCells #[.int .i64 0] ws.length) 3) = X := ⟨_, rfl⟩
    rw [hw3] at hb3 hs3 i3 c3 d3 ⊢
    have H3 := Lib.hid hw3
    clear hw3
    try rw [hs2]
    refine hK.out _ _ ⟨c3, d3⟩ (fun hHeld => ?_)
    clear hK K
    try simp only [Act.put, List.getElem_toArray, List.getElem_cons_zero, List.getElem_cons_succ, List.setIfInBounds_toArray, List.set_cons_zero, List.set_cons_succ]
    refine wpAnyH_take (i := 9) (oi := _) (v := ?_) rfl (by kernel_rfl) (by kernel_rfl) (by kernel_rfl) (fun _ _ _ h => h) (Or.inl ⟨by rfl, ?_⟩) (by first | assumption | trivial) ?_
    rotate_left
    · (intro w hSw; (try dsimp only at hSw); go_simp; try with_reducible rfl)
    try simp only [Act.put, List.getElem_toArray, List.getElem_cons_zero, List.getElem_cons_succ, List.setIfInBounds_toArray, List.set_cons_zero, List.set_cons_succ]
    refine wpAnyH_ready (rs := [10]) (by kernel_rfl) (by simp) ?_
    refine AllReadyH.cons (o := _) rfl (fun K hK => ?_) AllReadyH.nil
    go_simp
    have hb4 := gnew w3 (.cells #[.map (some M), .slice Aw ws.length cw, .int .i64 1, .slice (some ⟨n + 1, 0, none⟩) ws.length ws.length, .slice (some ⟨n + 2, 0, none⟩) ws.length ws.length, .slice none 0 0, .bool false] 84)
    have i4 := heap_alloc_new w3 (.cells #[.map (some M), .slice Aw ws.length cw, .int .i64 1, .slice (some ⟨n + 1, 0, none⟩) ws.length ws.length, .slice (some ⟨n + 2, 0, none⟩) ws.length ws.length, .slice none 0 0, .bool false] 84)
    rw [hs3] at i4
    have c4 := (hb4.cell (p := ⟨n, 0, none⟩) (by show n < _; omega)).trans c3
    have d4 := (hb4.cell (p := ⟨n, 1, none⟩) (by show n < _; omega)).trans d3
    have hs4 : (w3.alloc (.cells #[.map (some M), .slice Aw ws.length cw, .int .i64 1, .slice (some ⟨n + 1, 0, none⟩) ws.length ws.length, .slice (some ⟨n + 2, 0, none⟩) ws.length ws.length, .slice none 0 0, .bool false] 84)).heap.size = n + 4 := by simp [hs3]
    obtain ⟨w4, hw4⟩ : ∃ X, w3.alloc (.cells #[.map (some M), .slice Aw ws.length cw, .int .i64 1, .slice (some ⟨n + 1, 0, none⟩) ws.length ws.length, .slice (some ⟨n + 2, 0, none⟩) ws.length ws.length, .slice none 0 0, .bool false] 84) = X := ⟨_, rfl⟩
    rw [hw4] at hb4 hs4 i4 c4 d4 ⊢
    clear hw4
    try rw [hs3]
    refine hK.out _ _ ⟨c4, d4⟩ (fun hHeld => ?_)
    clear hK K
    try simp only [Act.put, List.getElem_toArray, List.getElem_cons_zero, List.getElem_cons_succ, List.setIfInBounds_toArray, List.set_cons_zero, List.set_cons_succ]
    refine wpAnyH_take (i := 11) (oi := _) (v := ?_) rfl (by kernel_rfl) (by kernel_rfl) (by kernel_rfl) (fun _ _ _ h => h) (Or.inl ⟨by rfl, ?_⟩) (by first | assumption | trivial) ?_
    rotate_left
    · (intro w hSw; (try dsimp only at hSw); go_simp; try with_reducible rfl)
    try simp only [Act.put, List.getElem_toArray, List.getElem_cons_zero, List.getElem_cons_succ, List.setIfInBounds_toArray, List.set_cons_zero, List.set_cons_succ]
    refine wpAnyH_done (by kernel_rfl) ?_ _
    go_wp2_with fail
    go_ret
    have hn := HN.out
    have hBL : Below n w w4 := B1.out.trans (((hb2.mono (by omega)).trans (hb3.mono (by omega))).trans (hb4.mono (by omega)))
    have g2 := (hb4.block (n + 1) (by omega)).trans ((hb3.block (n + 1) (by omega)).trans i2)
    have g3 := (hb4.block (n + 2) (by omega)).trans i3
    refine ⟨n + 3, n + 1, n + 2, rfl, ?_, by omega, by omega, by omega, by rw [hn]; exact hBL⟩
    rw [hn]
    exact ⟨i4, gturns_new g2 (by omega) hln, gturns_new g3 (by omega) hln, ⟨[], World.ownsRow_nil _ _ _ _, fun j a l hj => by have hj : ([] : List (Nat × List Nat))[j]? = some (a, l) := hj; simp at hj⟩, HWA.out.below (fun b hb => hBL.block b hb), by omega⟩
  refine AllReadyH.cons (o := _) rfl (fun K hK => ?_) AllReadyH.nil
  go_simp
  have hb2 := gnew w1 (.cells (madeCells #[.int .i64 0] ws.length) 3)
  have hs2 : (w1.alloc (.cells (madeCells #[.int .i64 0] ws.length) 3)).heap.size = n + 2 := by simp [hs1]
  have i2 := heap_alloc_new w1 (.cells (madeCells #[.int .i64 0] ws.length) 3)
  rw [hs1] at i2
  have c2 := (hb2.cell (p := ⟨n, 0, none⟩) (by show n < _; omega)).trans c1
  have d2 := (hb2.cell (p := ⟨n, 1, none⟩) (by show n < _; omega)).trans d1
  obtain ⟨w2, hw2⟩ : ∃ X, w1.alloc (.cells (madeCells #[.int .i64 0] ws.length) 3) = X := ⟨_, rfl⟩
  rw [hw2] at hb2 hs2 i2 c2 d2 ⊢
  have H2 := Lib.hid hw2
  clear hw2
  try rw [hs1]
  refine hK.out _ _ ⟨c2, d2⟩ (fun hHeld => ?_)
  clear hK K
  try simp only [Act.put, List.getElem_toArray, List.getElem_cons_zero, List.getElem_cons_succ, List.setIfInBounds_toArray, List.set_cons_zero, List.set_cons_succ]
  refine wpAnyH_ready (rs := [4]) (by kernel_rfl) (by simp) ?_
  refine AllReadyH.cons (o := _) rfl (fun K hK => ?_) AllReadyH.nil
  go_simp
  have hb3 := gnew w2 (.cells (madeCells #[.int .i64 0] ws.length) 3)
  have hs3 : (w2.alloc (.cells (madeCells #[.int .i64 0] ws.length) 3)).heap.size = n + 3 := by simp [hs2]
  have i3 := heap_alloc_new w2 (.cells (madeCells #[.int .i64 0] ws.length) 3)
  rw [hs2] at i3
  have c3 := (hb3.cell (p := ⟨n, 0, none⟩) (by show n < _; omega)).trans c2
  have d3 := (hb3.cell (p := ⟨n, 1, none⟩) (by show n < _; omega)).trans d2
  obtain ⟨w3, hw3⟩ : ∃ X, w2.alloc (.cells (madeCells #[.int .i64 0] ws.length) 3) = X := ⟨_, rfl⟩
  rw [hw3] at hb3 hs3 i3 c3 d3 ⊢
  have H3 := Lib.hid hw3
  clear hw3
  try rw [hs2]
  refine hK.out _ _ ⟨c3, d3⟩ (fun hHeld => ?_)
  clear hK K
  try simp only [Act.put, List.getElem_toArray, List.getElem_cons_zero, List.getElem_cons_succ, List.setIfInBounds_toArray, List.set_cons_zero, List.set_cons_succ]
  refine wpAnyH_take (i := 9) (oi := _) (v := ?_) rfl (by kernel_rfl) (by kernel_rfl) (by kernel_rfl) (fun _ _ _ h => h) (Or.inl ⟨by rfl, ?_⟩) (by first | assumption | trivial) ?_
  rotate_left
  · (intro w hSw; (try dsimp only at hSw); go_simp; try with_reducible rfl)
  try simp only [Act.put, List.getElem_toArray, List.getElem_cons_zero, List.getElem_cons_succ, List.setIfInBounds_toArray, List.set_cons_zero, List.set_cons_succ]
  refine wpAnyH_ready (rs := [10]) (by kernel_rfl) (by simp) ?_
  refine AllReadyH.cons (o := _) rfl (fun K hK => ?_) AllReadyH.nil
  go_simp
  have hb4 := gnew w3 (.cells #[.map (some M), .slice Aw ws.length cw, .int .i64 1, .slice (some ⟨n + 2, 0, none⟩) ws.length ws.length, .slice (some ⟨n + 1, 0, none⟩) ws.length ws.length, .slice none 0 0, .bool false] 84)
  have i4 := heap_alloc_new w3 (.cells #[.map (some M), .slice Aw ws.length cw, .int .i64 1, .slice (some ⟨n + 2, 0, none⟩) ws.length ws.length, .slice (some ⟨n + 1, 0, none⟩) ws.length ws.length, .slice none 0 0, .bool false] 84)
  rw [hs3] at i4
  have c4 := (hb4.cell (p := ⟨n, 0, none⟩) (by show n < _; omega)).trans c3
  have d4 := (hb4.cell (p := ⟨n, 1, none⟩) (by show n < _; omega)).trans d3
  have hs4 : (w3.alloc (.cells #[.map (some M), .slice Aw ws.length cw, .int .i64 1, .slice (some ⟨n + 2, 0, none⟩) ws.length ws.length, .slice (some ⟨n + 1, 0, none⟩) ws.length ws.length, .slice none 0 0, .bool false] 84)).heap.size = n + 4 := by simp [hs3]
  obtain ⟨w4, hw4⟩ : ∃ X, w3.alloc (.cells #[.map (some M), .slice Aw ws.length cw, .int .i64 1, .slice (some ⟨n + 2, 0, none⟩) ws.length ws.length, .slice (some ⟨n + 1, 0, none⟩) ws.length ws.length, .slice none 0 0, .bool false] 84) = X := ⟨_, rfl⟩
  rw [hw4] at hb4 hs4 i4 c4 d4 ⊢
  clear hw4
  try rw [hs3]
  refine hK.out _ _ ⟨c4, d4⟩ (fun hHeld => ?_)
  clear hK K
  try simp only [Act.put, List.getElem_toArray, List.getElem_cons_zero, List.getElem_cons_succ, List.setIfInBounds_toArray, List.set_cons_zero, List.set_cons_succ]
  refine wpAnyH_take (i := 11) (oi := _) (v := ?_) rfl (by kernel_rfl) (by kernel_rfl) (by kernel_rfl) (fun _ _ _ h => h) (Or.inl ⟨by rfl, ?_⟩) (by first | assumption | trivial) ?_
  rotate_left
  · (intro w hSw; (try dsimp only at hSw); go_simp; try with_reducible rfl)
  try simp only [Act.put, List.getElem_toArray, List.getElem_cons_zero, List.getElem_cons_succ, List.setIfInBounds_toArray, List.set_cons_zero, List.set_cons_succ]
  refine wpAnyH_done (by kernel_rfl) ?_ _
  go_wp2_with fail
  go_ret
  have hn := HN.out
  have hBL : Below n w w4 := B1.out.trans (((hb2.mono (by omega)).trans (hb3.mono (by omega))).trans (hb4.mono (by omega)))
  have g2 := (hb4.block (n + 1) (by omega)).trans ((hb3.block (n + 1) (by omega)).trans i2)
  have g3 := (hb4.block (n + 2) (by omega)).trans i3
  refine ⟨n + 3, n + 2, n + 1, rfl, ?_, by omega, by omega, by omega, by rw [hn]; exact hBL⟩
  rw [hn]
  exact ⟨i4, gturns_new g3 (by omega) hln, gturns_new g2 (by omega) hln, ⟨[], World.ownsRow_nil _ _ _ _, fun j a l hj => by have hj : ([] : List (Nat × List Nat))[j]? = some (a, l) := hj; simp at hj⟩, HWA.out.below (fun b hb => hBL.block b hb), by omega⟩
end Go.Proofs.Ytohkimibphleaaa
