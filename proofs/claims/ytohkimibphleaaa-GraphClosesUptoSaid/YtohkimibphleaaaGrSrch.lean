/- graph's search: what it holds; reached, begin. (gen_grsrch.py wrote it.) -/
import Derived.Test.YtohkimibphleaaaGrNet
namespace Go.Proofs.Ytohkimibphleaaa
open Go.RowKit

/-- What a search has come to: the last turn that each fragment was begun and ended in, the way, the last step first; whether it has come to where it came from. -/
structure SS where
  bg : List Int
  en : List Int
  stk : List (Nat × List Nat)
  ring : Bool
/-- Rows of places, below L. -/
def WaysAt (W : World) (L : Nat) (Aw : Option Addr) (ws : List (List Nat)) : Prop := ∀ (j : Nat) l, ws[j]? = some l → ∃ g A c, Aw = some ⟨g, 0, none⟩ ∧ g < L ∧ W.cell? ⟨g, j, none⟩ = some (.slice A l.length c) ∧ l.length ≤ c ∧ IntsG W (fun b => b < L) A l
theorem WaysAt.below {W W' : World} {L : Nat} {Aw : Option Addr} {ws : List (List Nat)} (h : WaysAt W L Aw ws) (hb : ∀ b, b < L → W'.heap[b]? = W.heap[b]?) : WaysAt W' L Aw ws := fun j l hj => by
  obtain ⟨g, A, c, e, h1, h2, h3, h4⟩ := h j l hj
  exact ⟨g, A, c, e, h1, (World.cell?_of_block (a := ⟨g, j, none⟩) (hb g h1)).trans h2, h3, h4.keep fun b hl => ⟨hl, hb b hl⟩⟩
theorem WaysO.at {W : World} {base : Nat} {V : Value} {ws : List (List Nat)} (h : WaysO W base V ws) : ∃ Aw cw, V = .slice Aw ws.length cw ∧ WaysAt W W.heap.size Aw ws := by
  obtain ⟨vs, h1, h2⟩ := h
  obtain ⟨Aw, cw, rfl⟩ := shape_own h1
  refine ⟨Aw, cw, rfl, fun j l hj => ?_⟩
  obtain ⟨A, c, g1, g2, g3⟩ := h2 j l hj
  obtain ⟨g, cp, e, _, hg⟩ := World.ownsRow.form h1 (by have := (List.getElem?_eq_some_iff.1 hj).1; omega)
  injection e with e1 _ e3
  subst e1 e3
  have := h1.cells (g := g) rfl j _ g1
  rw [add_at, Nat.zero_add] at this
  exact ⟨g, A, c, rfl, hg, this, g2, g3.keep fun b hb => ⟨hb.2.1, rfl⟩⟩
/-- The way, the first step first. -/
def WayO (W : World) (L r : Nat) (V : Value) (m : List (Nat × List Nat)) : Prop := ∃ vs, W.ownsRow (r + 1) 99 2 V m.length vs ∧ ∀ (j a : Nat) l, m[j]? = some (a, l) → ∃ A c, vs[2 * j]? = some (.int .i64 a) ∧ vs[2 * j + 1]? = some (.slice A l.length c) ∧ l.length ≤ c ∧ IntsG W (fun b => b < L) A l
theorem WayO.blk {W W' : World} {L r : Nat} {V : Value} {m : List (Nat × List Nat)} (h : WayO W L r V m) (hb : ∀ b, b < L → W'.heap[b]? = W.heap[b]?) (ho : ∀ b, V.ownBlock = some b → W'.heap[b]? = W.heap[b]?) : WayO W' L r V m := by
  obtain ⟨vs, h1, h2⟩ := h
  refine ⟨vs, gown_one h1 ho, fun j a l hj => ?_⟩
  obtain ⟨A, c, g1, g2, g3, g4⟩ := h2 j a l hj
  exact ⟨A, c, g1, g2, g3, g4.keep fun b hl => ⟨hl, hb b hl⟩⟩
/-- All blocks stand but the search's own. -/
structure MoV (gb ge r : Nat) (W : World) (V : Value) (W' : World) (V' : Value) : Prop where
  os : W'.os = W.os
  tape : W'.tape = W.tape
  output : W'.output = W.output
  size : W.heap.size ≤ W'.heap.size
  block : ∀ b, b < W.heap.size → b ≠ gb → b ≠ ge → b ≠ r → V.ownBlock ≠ some b → W'.heap[b]? = W.heap[b]?
  own : ∀ b, V'.ownBlock = some b → V.ownBlock = some b ∨ W.heap.size ≤ b
theorem MoV.of_below {gb ge r : Nat} {W W' : World} {V : Value} (h : Below W.heap.size W W') : MoV gb ge r W V W' V := ⟨h.os, h.tape, h.output, h.size, fun b hb _ _ _ _ => h.block b hb, fun _ hb => .inl hb⟩
theorem MoV.trans {gb ge r : Nat} {W W1 W2 : World} {V V1 V2 : Value} (h : MoV gb ge r W V W1 V1) (h' : MoV gb ge r W1 V1 W2 V2) : MoV gb ge r W V W2 V2 := by
  have hs := h.size
  refine ⟨h'.os.trans h.os, h'.tape.trans h.tape, h'.output.trans h.output, Nat.le_trans hs h'.size, fun b hb h1 h2 h3 h4 => ?_, fun b hb => ?_⟩
  · refine (h'.block b (by omega) h1 h2 h3 (fun e => ?_)).trans (h.block b hb h1 h2 h3 h4)
    rcases h.own b e with h5 | h5
    · exact h4 h5
    · omega
  · rcases h'.own b hb with h1 | h1
    · exact h.own b h1
    · exact .inr (Nat.le_trans hs h1)
/-- The row of turns. -/
def TurnsO (W : World) (L g n : Nat) (l : List Int) : Prop := l.length = n ∧ W.ownsRow L 3 1 (.slice (some ⟨g, 0, none⟩) n n) n (l.map (Value.int .i64))
theorem TurnsO.cell {W : World} {L g n : Nat} {l : List Int} (h : TurnsO W L g n l) {a : Nat} (ha : a < n) : W.cell? ⟨g, a, none⟩ = some (.int .i64 (l.getD a 0)) ∧ W.frozen? ⟨g, a, none⟩ = false := by
  refine ⟨?_, h.2.frozenAt a⟩
  have := h.2.cells (g := g) rfl a (.int .i64 (l.getD a 0)) (by rw [List.getElem?_map, List.getElem?_eq_getElem (by rw [h.1]; exact ha), List.getD_eq_getElem?_getD, List.getElem?_eq_getElem (by rw [h.1]; exact ha)]; rfl)
  rwa [add_at, Nat.zero_add] at this
theorem TurnsO.one {W W' : World} {L g n : Nat} {l : List Int} (h : TurnsO W L g n l) (hb : W'.heap[g]? = W.heap[g]?) : TurnsO W' L g n l := ⟨h.1, gown_one h.2 (fun b e => by injection e with e; subst e; exact hb)⟩
theorem TurnsO.set {W : World} {L g n : Nat} {l : List Int} (h : TurnsO W L g n l) (a : Nat) (t : Int) : TurnsO (W.setCell ⟨g, a, none⟩ (.int .i64 t)) L g n (l.set a t) := by
  refine ⟨by rw [List.length_set]; exact h.1, ?_⟩
  rw [List.map_set]
  exact (h.2.stored a (.int .i64 t)).1
theorem TurnsO.lt {W : World} {L g n : Nat} {l : List Int} (h : TurnsO W L g n l) : L ≤ g ∧ g < W.heap.size := h.2.lt g rfl
/-- The search in memory. -/
structure SrchG (L r M gb ge : Nat) (Aw : Option Addr) (cw : Nat) (ws : List (List Nat)) (tn : Int) (Vy : Value) (s : SS) (W : World) : Prop where
  box : W.heap[r]? = some (.cells #[.map (some M), .slice Aw ws.length cw, .int .i64 tn, .slice (some ⟨gb, 0, none⟩) ws.length ws.length, .slice (some ⟨ge, 0, none⟩) ws.length ws.length, Vy, .bool s.ring] 84 (0, 0))
  bg : TurnsO W L gb ws.length s.bg
  en : TurnsO W L ge ws.length s.en
  way : WayO W L r Vy s.stk.reverse
  ways : WaysAt W L Aw ws
  lts : L ≤ r ∧ gb < r ∧ ge < r ∧ gb ≠ ge
section
variable {L r M gb ge : Nat} {Aw : Option Addr} {cw : Nat} {ws : List (List Nat)} {tn : Int} {Vy : Value} {s : SS} {W W' : World}
theorem SrchG.own (h : SrchG L r M gb ge Aw cw ws tn Vy s W) : ∀ b, Vy.ownBlock = some b → r + 1 ≤ b ∧ b < W.heap.size := by
  obtain ⟨vs, h1, _⟩ := h.way
  exact h1.lt
theorem SrchG.next (h : SrchG L r M gb ge Aw cw ws tn Vy s W) (hb : Below W.heap.size W W') : SrchG L r M gb ge Aw cw ws tn Vy s W' := by
  have hr := (Array.getElem?_eq_some_iff.1 h.box).1
  have hl := h.lts
  exact ⟨(hb.block _ hr).trans h.box, h.bg.one (hb.block _ h.bg.lt.2), h.en.one (hb.block _ h.en.lt.2), h.way.blk (fun b hl => hb.block b (by omega)) (fun b e => hb.block b (h.own b e).2), h.ways.below (fun b hl => hb.block b (by omega)), hl⟩
theorem SrchG.push {c a g2 : Nat} {A : Option Addr} {l : List Nat} {vs : List Value} {o : Obj} {W2 : World} {V2 : Value} (h : SrchG L r M gb ge Aw cw ws tn Vy s W) (_hal : ws[a]? = some l) (hv1 : W.ownsRow (r + 1) 99 2 Vy s.stk.length vs)
    (hv2 : ∀ (j a : Nat) l, s.stk.reverse[j]? = some (a, l) → ∃ A c, vs[2 * j]? = some (.int .i64 a) ∧ vs[2 * j + 1]? = some (.slice A l.length c) ∧ l.length ≤ c ∧ IntsG W (fun b => b < L) A l) (hc : l.length ≤ c) (hA : IntsG W (fun b => b < L) A l)
    (hg : (W.alloc o).grownBy W2 Vy.ownBlock) (hown : W2.ownsRow (r + 1) 99 2 V2 (s.stk.length + 1) (vs ++ [.int .i64 a, .slice A l.length c])) (hV2 : V2.ownBlock = some g2) (hat : Vy.ownBlock = some g2 ∨ g2 = (W.alloc o).heap.size) :
    SrchG L r M gb ge Aw cw ws tn V2 { s with stk := (a, l) :: s.stk } (W2.setCell ⟨r, 5, none⟩ V2) ∧ MoV gb ge r W Vy (W2.setCell ⟨r, 5, none⟩ V2) V2 := by
  have hl := h.lts
  have hr := (Array.getElem?_eq_some_iff.1 h.box).1
  have hs := hg.size
  have hal : (W.alloc o).heap.size = W.heap.size + 1 := by simp
  have hsz : (W2.setCell ⟨r, 5, none⟩ V2).heap.size = W2.heap.size := by simp [World.setCell]
  have hk : ∀ b, b < W.heap.size → Vy.ownBlock ≠ some b → W2.heap[b]? = W.heap[b]? := fun b hb hne => (hg.block b (by omega) (fun e => hne e.symm)).trans (Below.heap_alloc _ _ _ hb)
  have hVy : ∀ b, b ≤ r → Vy.ownBlock ≠ some b := fun b hb e => by have := (h.own b e).1; omega
  have hks : ∀ b, b ≠ r → (W2.setCell ⟨r, 5, none⟩ V2).heap[b]? = W2.heap[b]? := fun b hne => Below.heap_setCell _ _ _ _ hne
  have hlow : ∀ b, b < r → (W2.setCell ⟨r, 5, none⟩ V2).heap[b]? = W.heap[b]? := fun b hb => (hks b (by omega)).trans (hk b (by omega) (hVy b (by omega)))
  have hlv : vs.length = s.stk.length * 2 := hv1.1
  refine ⟨⟨?_, h.bg.one (hlow _ hl.2.1), h.en.one (hlow _ hl.2.2.1), ⟨vs ++ [.int .i64 a, .slice A l.length c], ?_, fun j a' l' hj => ?_⟩, h.ways.below (fun b hb => hlow b (by omega)), hl⟩, ⟨hg.os, hg.tape, hg.output, by omega, fun b hb _ _ h3 h4 => (hks b h3).trans (hk b hb h4), fun b hb => ?_⟩⟩
  · have hb := (hk r hr (hVy r (Nat.le_refl _))).trans h.box
    simp [World.setCell, Array.getElem?_modify, hb]
  · rw [List.length_reverse, List.length_cons]
    exact gown_one hown (fun b e => hks b (by have := (hown.lt b e).1; omega))
  · show ∃ A c, _
    rw [show ({ s with stk := (a, l) :: s.stk } : SS).stk.reverse = s.stk.reverse ++ [(a, l)] from List.reverse_cons ..] at hj
    rcases Nat.lt_or_ge j s.stk.reverse.length with hj1 | hj1
    · rw [List.getElem?_append_left hj1] at hj
      obtain ⟨A', c', p1, p2, p3, p4⟩ := hv2 j a' l' hj
      rw [List.length_reverse] at hj1
      exact ⟨A', c', by rw [List.getElem?_append_left (by omega)]; exact p1, by rw [List.getElem?_append_left (by omega)]; exact p2, p3, p4.keep fun b hb => ⟨hb, hlow b (by omega)⟩⟩
    · obtain rfl : j = s.stk.reverse.length := by
        have := (List.getElem?_eq_some_iff.1 hj).1
        simp at this hj1
        simp
        omega
      have e : (a, l) = (a', l') := by simpa using hj
      injection e with e1 e2
      subst e1 e2
      rw [List.length_reverse]
      exact ⟨A, c, by rw [List.getElem?_append_right (by omega), hlv, Nat.mul_comm, Nat.sub_self]; rfl, by rw [List.getElem?_append_right (by omega), hlv, show 2 * s.stk.length + 1 - s.stk.length * 2 = 1 by omega]; rfl, hc, hA.keep fun b hb => ⟨hb, hlow b (by omega)⟩⟩
  · rw [hV2] at hb
    injection hb with hb
    subst hb
    rcases hat with e | e
    · exact .inl e
    · exact .inr (by omega)
end
def reachB (s : SS) (tn : Int) (a : Nat) : Bool := s.bg.getD a 0 == tn
def beginS (ws : List (List Nat)) (tn : Int) (a : Nat) (s : SS) : SS := { s with bg := s.bg.set a tn, stk := (a, ws.getD a []) :: s.stk }
theorem gdrew (W : World) : Below W.heap.size W W.drew := Below.drew (Below.refl _ _)
set_option maxRecDepth 100000 in
set_option maxHeartbeats 8000000 in
theorem reached_any (L r M gb ge : Nat) (Aw : Option Addr) (cw : Nat) (ws : List (List Nat)) (tn : Int) (Vy : Value) (s : SS) (W : World) (h : SrchG L r M gb ge Aw cw ws tn Vy s W) (a : Nat) (ha : a < ws.length) :
    Calls Try.prog 22 #[.pointer (some ⟨r, 0, none⟩), .int .i64 a] W fun e W' => e = .returned (.bool (reachB s tn a)) ∧ Below W.heap.size W W' := by
  have hd := h.next (gdrew W)
  obtain ⟨⟨x0, x1, x2, x3, x4, x5, x6⟩, _⟩ := gcells7 hd.box
  have xc := (hd.bg.cell ha).1
  have ha' : (a : Int) < (ws.length : Int) := by omega
  clear h hd
  go_enter Try.func22, Try.ntmps22
  go_upto_region 1 with fail
  refine wp_region_held_drew (S := fun w' => w'.cell? ⟨r, 2, none⟩ = some (.int .i64 tn) ∧ w'.cell? ⟨r, 3, none⟩ = some (.slice (some ⟨gb, 0, none⟩) ws.length ws.length) ∧ w'.cell? ⟨gb, a, none⟩ = some (.int .i64 (s.bg.getD a 0))) (by kernel_rfl) ⟨x2, x3, xc⟩ (fun hHeld => ?_)
  refine wpAnyH_take (i := 0) (oi := _) (v := ?_) rfl (by kernel_rfl) (by kernel_rfl) (by kernel_rfl) (fun _ _ _ h => h) (Or.inl ⟨by rfl, ?_⟩) (by first | assumption | trivial) ?_
  rotate_left
  · (intro w hSw; (try dsimp only at hSw); go_simp; try with_reducible rfl)
  try simp only [Act.put, List.getElem_toArray, List.getElem_cons_zero, List.setIfInBounds_toArray, List.set_cons_zero, List.set_cons_succ]
  refine wpAnyH_take (i := 1) (oi := _) (v := ?_) rfl (by kernel_rfl) (by kernel_rfl) (by kernel_rfl) (fun _ _ _ h => h) (Or.inl ⟨by rfl, ?_⟩) (by first | assumption | trivial) ?_
  rotate_left
  · (intro w hSw; (try dsimp only at hSw); go_simp; try with_reducible rfl)
  try simp only [Act.put, List.getElem_toArray, List.getElem_cons_zero, List.getElem_cons_succ, List.setIfInBounds_toArray, List.set_cons_zero, List.set_cons_succ]
  refine wpAnyH_take (i := 2) (oi := _) (v := ?_) rfl (by kernel_rfl) (by kernel_rfl) (by kernel_rfl) (fun _ _ _ h => h) (Or.inl ⟨by rfl, ?_⟩) (by first | assumption | trivial) ?_
  rotate_left
  · (intro w hSw; (try dsimp only at hSw); go_simp; try with_reducible rfl)
  try simp only [Act.put, List.getElem_toArray, List.getElem_cons_zero, List.getElem_cons_succ, List.setIfInBounds_toArray, List.set_cons_zero, List.set_cons_succ]
  refine wpAnyH_take (i := 3) (oi := _) (v := ?_) rfl (by kernel_rfl) (by kernel_rfl) (by kernel_rfl) (fun _ _ _ h => h) (Or.inl ⟨by rfl, ?_⟩) (by first | assumption | trivial) ?_
  rotate_left
  · (intro w hSw; (try dsimp only at hSw); go_simp; try with_reducible rfl)
  try simp only [Act.put, List.getElem_toArray, List.getElem_cons_zero, List.getElem_cons_succ, List.setIfInBounds_toArray, List.set_cons_zero, List.set_cons_succ]
  refine wpAnyH_take (i := 4) (oi := _) (v := ?_) rfl (by kernel_rfl) (by kernel_rfl) (by kernel_rfl) (fun _ _ _ h => h) (Or.inl ⟨by rfl, ?_⟩) (by first | assumption | trivial) ?_
  rotate_left
  · (intro w hSw; (try dsimp only at hSw); go_simp; try with_reducible rfl)
  try simp only [Act.put, List.getElem_toArray, List.getElem_cons_zero, List.getElem_cons_succ, List.setIfInBounds_toArray, List.set_cons_zero, List.set_cons_succ]
  refine wpAnyH_take (i := 5) (oi := _) (v := ?_) rfl (by kernel_rfl) (by kernel_rfl) (by kernel_rfl) (fun _ _ _ h => h) (Or.inl ⟨by rfl, ?_⟩) (by first | assumption | trivial) ?_
  rotate_left
  · (intro w hSw; (try dsimp only at hSw); go_simp; try with_reducible rfl)
  try simp only [Act.put, List.getElem_toArray, List.getElem_cons_zero, List.getElem_cons_succ, List.setIfInBounds_toArray, List.set_cons_zero, List.set_cons_succ]
  refine wpAnyH_take (i := 6) (oi := _) (v := ?_) rfl (by kernel_rfl) (by kernel_rfl) (by kernel_rfl) (fun _ _ _ h => h) (Or.inl ⟨by rfl, ?_⟩) (by first | assumption | trivial) ?_
  rotate_left
  · (intro w hSw; (try dsimp only at hSw); go_simp; try with_reducible rfl)
  try simp only [Act.put, List.getElem_toArray, List.getElem_cons_zero, List.getElem_cons_succ, List.setIfInBounds_toArray, List.set_cons_zero, List.set_cons_succ]
  refine wpAnyH_take (i := 7) (oi := _) (v := ?_) rfl (by kernel_rfl) (by kernel_rfl) (by kernel_rfl) (fun _ _ _ h => h) (Or.inl ⟨by rfl, ?_⟩) (by first | assumption | trivial) ?_
  rotate_left
  · (intro w hSw; (try dsimp only at hSw); go_simp; try with_reducible rfl)
  try simp only [Act.put, List.getElem_toArray, List.getElem_cons_zero, List.getElem_cons_succ, List.setIfInBounds_toArray, List.set_cons_zero, List.set_cons_succ]
  refine wpAnyH_take (i := 8) (oi := _) (v := ?_) rfl (by kernel_rfl) (by kernel_rfl) (by kernel_rfl) (fun _ _ _ h => h) (Or.inl ⟨by rfl, ?_⟩) (by first | assumption | trivial) ?_
  rotate_left
  · (intro w hSw; (try dsimp only at hSw); go_simp; try with_reducible rfl)
  try simp only [Act.put, List.getElem_toArray, List.getElem_cons_zero, List.getElem_cons_succ, List.setIfInBounds_toArray, List.set_cons_zero, List.set_cons_succ]
  refine wpAnyH_take (i := 9) (oi := _) (v := ?_) rfl (by kernel_rfl) (by kernel_rfl) (by kernel_rfl) (fun _ _ _ h => h) (Or.inl ⟨by rfl, ?_⟩) (by first | assumption | trivial) ?_
  rotate_left
  · (intro w hSw; (try dsimp only at hSw); go_simp; try with_reducible rfl)
  try simp only [Act.put, List.getElem_toArray, List.getElem_cons_zero, List.getElem_cons_succ, List.setIfInBounds_toArray, List.set_cons_zero, List.set_cons_succ]
  refine wpAnyH_take (i := 10) (oi := _) (v := ?_) rfl (by kernel_rfl) (by kernel_rfl) (by kernel_rfl) (fun _ _ _ h => h) (Or.inl ⟨by rfl, ?_⟩) (by first | assumption | trivial) ?_
  rotate_left
  · (intro w hSw; (try dsimp only at hSw); go_simp; try with_reducible rfl)
  try simp only [Act.put, List.getElem_toArray, List.getElem_cons_zero, List.getElem_cons_succ, List.setIfInBounds_toArray, List.set_cons_zero, List.set_cons_succ]
  refine wpAnyH_take (i := 11) (oi := _) (v := ?_) rfl (by kernel_rfl) (by kernel_rfl) (by kernel_rfl) (fun _ _ _ h => h) (Or.inl ⟨by rfl, ?_⟩) (by first | assumption | trivial) ?_
  rotate_left
  · (intro w hSw; (try dsimp only at hSw); go_simp; try with_reducible rfl)
  try simp only [Act.put, List.getElem_toArray, List.getElem_cons_zero, List.getElem_cons_succ, List.setIfInBounds_toArray, List.set_cons_zero, List.set_cons_succ]
  refine wpAnyH_take (i := 12) (oi := _) (v := ?_) rfl (by kernel_rfl) (by kernel_rfl) (by kernel_rfl) (fun _ _ _ h => h) (Or.inl ⟨by rfl, ?_⟩) (by first | assumption | trivial) ?_
  rotate_left
  · (intro w hSw; (try dsimp only at hSw); go_simp; try with_reducible rfl)
  try simp only [Act.put, List.getElem_toArray, List.getElem_cons_zero, List.getElem_cons_succ, List.setIfInBounds_toArray, List.set_cons_zero, List.set_cons_succ]
  refine wpAnyH_done (by kernel_rfl) ?_ _
  go_wp2_with fail
  go_ret
  exact ⟨rfl, gdrew W⟩
theorem gtwo_news (w : World) (c0 c1 : Value) (t : TypeId) {n : Nat} (hn : n = w.heap.size) : ∀ (j : Nat) u, [c0, c1][j]? = some u → (w.alloc (.cells #[c0, c1] t)).cell? ((⟨n, 0, none⟩ : Addr).add j) = some u := by
  subst hn
  intro j u hu
  rw [add_at, Nat.zero_add]
  match j, hu with
  | 0, hu => cases hu; rw [World.cell?_alloc_at _ _ _ _ rfl]; rfl
  | 1, hu => cases hu; rw [World.cell?_alloc_at _ _ _ _ rfl]; rfl
theorem gstep_row : ∃ i z, Try.prog.info? 99 = some i ∧ i.zero = some z ∧ i.size = 2 ∧ i.bytes = 32 ∧ z.cells.size = 2 := ginfo_of (by kernel_rfl)
set_option maxRecDepth 100000 in
set_option maxHeartbeats 8000000 in
theorem begin_any (L r M gb ge : Nat) (Aw : Option Addr) (cw : Nat) (ws : List (List Nat)) (tn : Int) (Vy : Value) (s : SS) (W : World) (h : SrchG L r M gb ge Aw cw ws tn Vy s W) (a : Nat) (ha : a < ws.length) (hst : s.stk.length ≤ 1099511627776) :
    Calls Try.prog 33 #[.pointer (some ⟨r, 0, none⟩), .int .i64 a] W fun e W' => (∃ v, e = .returned v) ∧ ∃ Vy', SrchG L r M gb ge Aw cw ws tn Vy' (beginS ws tn a s) W' ∧ MoV gb ge r W Vy W' Vy' := by
  have HD := Lib.hid (h.next (gdrew W))
  obtain ⟨⟨x0, x1, x2, x3, x4, x5, x6⟩, _⟩ := gcells7 HD.out.box
  obtain ⟨xc, xf⟩ := HD.out.bg.cell ha
  have ha' : (a : Int) < (ws.length : Int) := by omega
  obtain ⟨l, hal⟩ : ∃ l, ws[a]? = some l := ⟨_, List.getElem?_eq_getElem ha⟩
  obtain ⟨hLr, hgr, her, hge⟩ := HD.out.lts
  obtain ⟨i0, zz, hi0, kz0, kz1, kz2, kz3⟩ := gstep_row
  clear h
  go_enter Try.func33, Try.ntmps33
  go_upto_region 0 with fail
  refine wp_region_held_drew (S := fun w' => w'.cell? ⟨r, 2, none⟩ = some (.int .i64 tn) ∧ w'.cell? ⟨r, 3, none⟩ = some (.slice (some ⟨gb, 0, none⟩) ws.length ws.length)) (by kernel_rfl) ⟨x2, x3⟩ (fun hHeld => ?_)
  refine wpAnyH_take (i := 0) (oi := _) (v := ?_) rfl (by kernel_rfl) (by kernel_rfl) (by kernel_rfl) (fun _ _ _ h => h) (Or.inl ⟨by rfl, ?_⟩) (by first | assumption | trivial) ?_
  rotate_left
  · (intro w hSw; (try dsimp only at hSw); go_simp; try with_reducible rfl)
  try simp only [Act.put, List.getElem_toArray, List.getElem_cons_zero, List.setIfInBounds_toArray, List.set_cons_zero, List.set_cons_succ]
  refine wpAnyH_take (i := 1) (oi := _) (v := ?_) rfl (by kernel_rfl) (by kernel_rfl) (by kernel_rfl) (fun _ _ _ h => h) (Or.inl ⟨by rfl, ?_⟩) (by first | assumption | trivial) ?_
  rotate_left
  · (intro w hSw; (try dsimp only at hSw); go_simp; try with_reducible rfl)
  try simp only [Act.put, List.getElem_toArray, List.getElem_cons_zero, List.getElem_cons_succ, List.setIfInBounds_toArray, List.set_cons_zero, List.set_cons_succ]
  refine wpAnyH_take (i := 2) (oi := _) (v := ?_) rfl (by kernel_rfl) (by kernel_rfl) (by kernel_rfl) (fun _ _ _ h => h) (Or.inl ⟨by rfl, ?_⟩) (by first | assumption | trivial) ?_
  rotate_left
  · (intro w hSw; (try dsimp only at hSw); go_simp; try with_reducible rfl)
  try simp only [Act.put, List.getElem_toArray, List.getElem_cons_zero, List.getElem_cons_succ, List.setIfInBounds_toArray, List.set_cons_zero, List.set_cons_succ]
  refine wpAnyH_take (i := 3) (oi := _) (v := ?_) rfl (by kernel_rfl) (by kernel_rfl) (by kernel_rfl) (fun _ _ _ h => h) (Or.inl ⟨by rfl, ?_⟩) (by first | assumption | trivial) ?_
  rotate_left
  · (intro w hSw; (try dsimp only at hSw); go_simp; try with_reducible rfl)
  try simp only [Act.put, List.getElem_toArray, List.getElem_cons_zero, List.getElem_cons_succ, List.setIfInBounds_toArray, List.set_cons_zero, List.set_cons_succ]
  refine wpAnyH_take (i := 4) (oi := _) (v := ?_) rfl (by kernel_rfl) (by kernel_rfl) (by kernel_rfl) (fun _ _ _ h => h) (Or.inl ⟨by rfl, ?_⟩) (by first | assumption | trivial) ?_
  rotate_left
  · (intro w hSw; (try dsimp only at hSw); go_simp; try with_reducible rfl)
  try simp only [Act.put, List.getElem_toArray, List.getElem_cons_zero, List.getElem_cons_succ, List.setIfInBounds_toArray, List.set_cons_zero, List.set_cons_succ]
  refine wpAnyH_take (i := 5) (oi := _) (v := ?_) rfl (by kernel_rfl) (by kernel_rfl) (by kernel_rfl) (fun _ _ _ h => h) (Or.inl ⟨by rfl, ?_⟩) (by first | assumption | trivial) ?_
  rotate_left
  · (intro w hSw; (try dsimp only at hSw); go_simp; try with_reducible rfl)
  try simp only [Act.put, List.getElem_toArray, List.getElem_cons_zero, List.getElem_cons_succ, List.setIfInBounds_toArray, List.set_cons_zero, List.set_cons_succ]
  refine wpAnyH_take (i := 6) (oi := _) (v := ?_) rfl (by kernel_rfl) (by kernel_rfl) (by kernel_rfl) (fun _ _ _ h => h) (Or.inl ⟨by rfl, ?_⟩) (by first | assumption | trivial) ?_
  rotate_left
  · (intro w hSw; (try dsimp only at hSw); go_simp; try with_reducible rfl)
  try simp only [Act.put, List.getElem_toArray, List.getElem_cons_zero, List.getElem_cons_succ, List.setIfInBounds_toArray, List.set_cons_zero, List.set_cons_succ]
  refine wpAnyH_take (i := 7) (oi := _) (v := ?_) rfl (by kernel_rfl) (by kernel_rfl) (by kernel_rfl) (fun _ _ _ h => h) (Or.inl ⟨by rfl, ?_⟩) (by first | assumption | trivial) ?_
  rotate_left
  · (intro w hSw; (try dsimp only at hSw); go_simp; try with_reducible rfl)
  try simp only [Act.put, List.getElem_toArray, List.getElem_cons_zero, List.getElem_cons_succ, List.setIfInBounds_toArray, List.set_cons_zero, List.set_cons_succ]
  refine wpAnyH_take (i := 8) (oi := _) (v := ?_) rfl (by kernel_rfl) (by kernel_rfl) (by kernel_rfl) (fun _ _ _ h => h) (Or.inl ⟨by rfl, ?_⟩) (by first | assumption | trivial) ?_
  rotate_left
  · (intro w hSw; (try dsimp only at hSw); go_simp; try with_reducible rfl)
  try simp only [Act.put, List.getElem_toArray, List.getElem_cons_zero, List.getElem_cons_succ, List.setIfInBounds_toArray, List.set_cons_zero, List.set_cons_succ]
  refine wpAnyH_take (i := 9) (oi := _) (v := ?_) rfl (by kernel_rfl) (by kernel_rfl) (by kernel_rfl) (fun _ _ _ h => h) (Or.inl ⟨by rfl, ?_⟩) (by first | assumption | trivial) ?_
  rotate_left
  · (intro w hSw; (try dsimp only at hSw); go_simp; try with_reducible rfl)
  try simp only [Act.put, List.getElem_toArray, List.getElem_cons_zero, List.getElem_cons_succ, List.setIfInBounds_toArray, List.set_cons_zero, List.set_cons_succ]
  refine wpAnyH_ready (rs := [10]) (by kernel_rfl) (by simp) ?_
  refine AllReadyH.cons (o := _) rfl (fun K hK => ?_) AllReadyH.nil
  go_simp
  refine hK.out _ _ ⟨(World.cell?_of_block (a := ⟨r, 2, none⟩) (Below.heap_setCell _ _ _ _ (by show r ≠ gb; omega))).trans x2, (World.cell?_of_block (a := ⟨r, 3, none⟩) (Below.heap_setCell _ _ _ _ (by show r ≠ gb; omega))).trans x3⟩ (fun hHeld => ?_)
  clear hK K
  try simp only [Act.put, List.getElem_toArray, List.getElem_cons_zero, List.getElem_cons_succ, List.setIfInBounds_toArray, List.set_cons_zero, List.set_cons_succ]
  refine wpAnyH_done (by kernel_rfl) ?_ _
  obtain ⟨w1, hw1⟩ : ∃ X, (W.setCell ⟨gb, a, none⟩ (.int .i64 tn)).drew = X := ⟨_, rfl⟩
  have hk : ∀ b, b ≠ gb → w1.heap[b]? = W.drew.heap[b]? := fun b hb => by rw [← hw1]; exact Below.heap_setCell _ _ _ _ hb
  have hs1 : w1.heap.size = W.heap.size := by rw [← hw1]; simp [World.setCell]
  have S1 : Hid (SrchG L r M gb ge Aw cw ws tn Vy { s with bg := s.bg.set a tn } w1) := Lib.hid ⟨(hk r (by omega)).trans HD.out.box, by rw [← hw1]; exact HD.out.bg.set a tn, HD.out.en.one (hk ge (by omega)), HD.out.way.blk (fun b hl => hk b (by have := HD.out.bg.lt; omega)) (fun b e => hk b (by have := (HD.out.own b e).1; omega)), HD.out.ways.below (fun b hl => hk b (by have := HD.out.bg.lt; omega)), HD.out.lts⟩
  have M1 : Hid (MoV gb ge r W Vy w1 Vy) := Lib.hid (by
    have hd := gdrew W
    refine ⟨by rw [← hw1]; exact hd.os, by rw [← hw1]; exact hd.tape, by rw [← hw1]; exact hd.output, by omega, fun b hb h1 _ _ _ => (hk b h1).trans (hd.block b hb), fun b hb => .inl hb⟩)
  rw [hw1]
  clear hw1 hk hs1 HD x0 x1 x2 x3 x4 x5 x6 xc xf hHeld
  go_wp2_with fail
  refine wp_region_held_drew (S := fun _ => True) (by kernel_rfl) trivial (fun hHeld => ?_)
  obtain ⟨wd, hwd⟩ : ∃ X, w1.drew = X := ⟨_, rfl⟩
  rw [hwd]
  have hdw : Below w1.heap.size w1 wd := by rw [← hwd]; exact gdrew w1
  have S1 := Lib.hid (S1.out.next hdw)
  have M1 := Lib.hid (M1.out.trans (.of_below hdw))
  clear hwd hdw
  obtain ⟨⟨x0, x1, x2, x3, x4, x5, x6⟩, _⟩ := gcells7 S1.out.box
  obtain ⟨gw, A, c, rfl, hgw, xw, hlc, hIN⟩ := S1.out.ways a _ hal
  have HIN := Lib.hid hIN
  have HLC := Lib.hid hlc
  clear hIN hlc
  refine wpAnyH_take (i := 0) (oi := _) (v := ?_) rfl (by kernel_rfl) (by kernel_rfl) (by kernel_rfl) (fun _ _ _ h => h) (Or.inl ⟨by rfl, ?_⟩) (by first | assumption | trivial) ?_
  rotate_left
  · (intro w hSw; (try dsimp only at hSw); go_simp; try with_reducible rfl)
  try simp only [Act.put, List.getElem_toArray, List.getElem_cons_zero, List.setIfInBounds_toArray, List.set_cons_zero, List.set_cons_succ]
  refine wpAnyH_take (i := 1) (oi := _) (v := ?_) rfl (by kernel_rfl) (by kernel_rfl) (by kernel_rfl) (fun _ _ _ h => h) (Or.inl ⟨by rfl, ?_⟩) (by first | assumption | trivial) ?_
  rotate_left
  · (intro w hSw; (try dsimp only at hSw); go_simp; try with_reducible rfl)
  try simp only [Act.put, List.getElem_toArray, List.getElem_cons_zero, List.getElem_cons_succ, List.setIfInBounds_toArray, List.set_cons_zero, List.set_cons_succ]
  refine wpAnyH_take (i := 2) (oi := _) (v := ?_) rfl (by kernel_rfl) (by kernel_rfl) (by kernel_rfl) (fun _ _ _ h => h) (Or.inl ⟨by rfl, ?_⟩) (by first | assumption | trivial) ?_
  rotate_left
  · (intro w hSw; (try dsimp only at hSw); go_simp; try with_reducible rfl)
  try simp only [Act.put, List.getElem_toArray, List.getElem_cons_zero, List.getElem_cons_succ, List.setIfInBounds_toArray, List.set_cons_zero, List.set_cons_succ]
  refine wpAnyH_take (i := 3) (oi := _) (v := ?_) rfl (by kernel_rfl) (by kernel_rfl) (by kernel_rfl) (fun _ _ _ h => h) (Or.inl ⟨by rfl, ?_⟩) (by first | assumption | trivial) ?_
  rotate_left
  · (intro w hSw; (try dsimp only at hSw); go_simp; try with_reducible rfl)
  try simp only [Act.put, List.getElem_toArray, List.getElem_cons_zero, List.getElem_cons_succ, List.setIfInBounds_toArray, List.set_cons_zero, List.set_cons_succ]
  refine wpAnyH_take (i := 5) (oi := _) (v := ?_) rfl (by kernel_rfl) (by kernel_rfl) (by kernel_rfl) (fun _ _ _ h => h) (Or.inl ⟨by rfl, ?_⟩) (by first | assumption | trivial) ?_
  rotate_left
  · (intro w hSw; (try dsimp only at hSw); go_simp; try with_reducible rfl)
  try simp only [Act.put, List.getElem_toArray, List.getElem_cons_zero, List.getElem_cons_succ, List.setIfInBounds_toArray, List.set_cons_zero, List.set_cons_succ]
  refine wpAnyH_take (i := 6) (oi := _) (v := ?_) rfl (by kernel_rfl) (by kernel_rfl) (by kernel_rfl) (fun _ _ _ h => h) (Or.inl ⟨by rfl, ?_⟩) (by first | assumption | trivial) ?_
  rotate_left
  · (intro w hSw; (try dsimp only at hSw); go_simp; try with_reducible rfl)
  try simp only [Act.put, List.getElem_toArray, List.getElem_cons_zero, List.getElem_cons_succ, List.setIfInBounds_toArray, List.set_cons_zero, List.set_cons_succ]
  refine wpAnyH_take (i := 7) (oi := _) (v := ?_) rfl (by kernel_rfl) (by kernel_rfl) (by kernel_rfl) (fun _ _ _ h => h) (Or.inl ⟨by rfl, ?_⟩) (by first | assumption | trivial) ?_
  rotate_left
  · (intro w hSw; (try dsimp only at hSw); go_simp; try with_reducible rfl)
  try simp only [Act.put, List.getElem_toArray, List.getElem_cons_zero, List.getElem_cons_succ, List.setIfInBounds_toArray, List.set_cons_zero, List.set_cons_succ]
  refine wpAnyH_take (i := 8) (oi := _) (v := ?_) rfl (by kernel_rfl) (by kernel_rfl) (by kernel_rfl) (fun _ _ _ h => h) (Or.inl ⟨by rfl, ?_⟩) (by first | assumption | trivial) ?_
  rotate_left
  · (intro w hSw; (try dsimp only at hSw); go_simp; try with_reducible rfl)
  try simp only [Act.put, List.getElem_toArray, List.getElem_cons_zero, List.getElem_cons_succ, List.setIfInBounds_toArray, List.set_cons_zero, List.set_cons_succ]
  refine wpAnyH_take (i := 9) (oi := _) (v := ?_) rfl (by kernel_rfl) (by kernel_rfl) (by kernel_rfl) (fun _ _ _ h => h) (Or.inl ⟨by rfl, ?_⟩) (by first | assumption | trivial) ?_
  rotate_left
  · (intro w hSw; (try dsimp only at hSw); go_simp; try with_reducible rfl)
  try simp only [Act.put, List.getElem_toArray, List.getElem_cons_zero, List.getElem_cons_succ, List.setIfInBounds_toArray, List.set_cons_zero, List.set_cons_succ]
  refine wpAnyH_take (i := 11) (oi := _) (v := ?_) rfl (by kernel_rfl) (by kernel_rfl) (by kernel_rfl) (fun _ _ _ h => h) (Or.inl ⟨by rfl, ?_⟩) (by first | assumption | trivial) ?_
  rotate_left
  · (intro w hSw; (try dsimp only at hSw); go_simp; try with_reducible rfl)
  try simp only [Act.put, List.getElem_toArray, List.getElem_cons_zero, List.getElem_cons_succ, List.setIfInBounds_toArray, List.set_cons_zero, List.set_cons_succ]
  refine wpAnyH_ready (rs := [4, 10]) (by kernel_rfl) (by simp) ?_
  refine AllReadyH.cons (o := _) rfl (fun K hK => ?_) ?_
  · go_simp
    refine hK.out _ _ trivial (fun hHeld => ?_)
    clear hK K
    try simp only [Act.put, List.getElem_toArray, List.getElem_cons_zero, List.getElem_cons_succ, List.setIfInBounds_toArray, List.set_cons_zero, List.set_cons_succ]
    refine wpAnyH_ready (rs := [10]) (by kernel_rfl) (by simp) ?_
    refine AllReadyH.cons (o := _) rfl (fun K hK => ?_) AllReadyH.nil
    go_simp
    refine hK.out _ _ trivial (fun hHeld => ?_)
    clear hK K
    try simp only [Act.put, List.getElem_toArray, List.getElem_cons_zero, List.getElem_cons_succ, List.setIfInBounds_toArray, List.set_cons_zero, List.set_cons_succ]
    refine wpAnyH_take (i := 12) (oi := _) (v := ?_) rfl (by kernel_rfl) (by kernel_rfl) (by kernel_rfl) (fun _ _ _ h => h) (Or.inl ⟨by rfl, ?_⟩) (by first | assumption | trivial) ?_
    rotate_left
    · (intro w hSw; (try dsimp only at hSw); go_simp; try with_reducible rfl)
    try simp only [Act.put, List.getElem_toArray, List.getElem_cons_zero, List.getElem_cons_succ, List.setIfInBounds_toArray, List.set_cons_zero, List.set_cons_succ]
    refine wpAnyH_ready (rs := [13]) (by kernel_rfl) (by simp) ?_
    refine AllReadyH.cons (o := _) rfl (fun K hK => ?_) AllReadyH.nil
    go_simp
    refine hK.out _ _ trivial (fun hHeld => ?_)
    clear hK K
    try simp only [Act.put, List.getElem_toArray, List.getElem_cons_zero, List.getElem_cons_succ, List.setIfInBounds_toArray, List.set_cons_zero, List.set_cons_succ]
    refine wpAnyH_take (i := 14) (oi := _) (v := ?_) rfl (by kernel_rfl) (by kernel_rfl) (by kernel_rfl) (fun _ _ _ h => h) (Or.inl ⟨by rfl, ?_⟩) (by first | assumption | trivial) ?_
    rotate_left
    · (intro w hSw; (try dsimp only at hSw); go_simp; try with_reducible rfl)
    try simp only [Act.put, List.getElem_toArray, List.getElem_cons_zero, List.getElem_cons_succ, List.setIfInBounds_toArray, List.set_cons_zero, List.set_cons_succ]
    refine wpAnyH_ready (rs := [15]) (by kernel_rfl) (by simp) ?_
    refine AllReadyH.cons (o := _) rfl (fun K hK => ?_) AllReadyH.nil
    go_simp
    obtain ⟨⟨_, _, _, _, _, xa5, _⟩, _⟩ := gcells7 (((gnew wd (.cells #[.int .i64 a, .slice A l.length c] 99)).block r (Array.getElem?_eq_some_iff.1 S1.out.box).1).trans S1.out.box)
    refine hK.out _ _ trivial (fun hHeld => ?_)
    clear hK K
    try simp only [Act.put, List.getElem_toArray, List.getElem_cons_zero, List.getElem_cons_succ, List.setIfInBounds_toArray, List.set_cons_zero, List.set_cons_succ]
    refine wpAnyH_ready (rs := [16]) (by kernel_rfl) (by simp) ?_
    refine AllReadyH.cons (o := _) rfl (fun K hK => ?_) AllReadyH.nil
    obtain ⟨vs, hv1, hv2⟩ := S1.out.way
    rw [List.length_reverse] at hv1
    refine gstep_app rfl _ _ 82 (by rfl) (r + 1) 99 i0 zz 2 32 Try.underlying82 hi0 kz0 kz1 kz2 kz3 (by decide) _ s.stk.length vs (by rfl) (hv1.alloc _) ⟨wd.heap.size, 0, none⟩ 1 1 [.int .i64 a, .slice A l.length c] (by rfl) rfl (gtwo_news _ _ _ _ rfl) (by intro y hy; simp at hy; rcases hy with rfl | rfl <;> rfl) (by unfold maxLen; omega) (by omega) (by have := (Array.getElem?_eq_some_iff.1 S1.out.box).1; simp; omega) ?_
    intro v' w' hown' hgrow hat
    obtain ⟨g', cap', rfl⟩ := ownsRow_succ hown'
    have HO := Lib.hid hown'
    have HG := Lib.hid hgrow
    have HAT := Lib.hid hat
    have HV1 := Lib.hid hv1
    have HV2 := Lib.hid hv2
    have hrb := (hgrow.block r (by have := (Array.getElem?_eq_some_iff.1 S1.out.box).1; simp; omega) (fun e => by have := (hv1.lt r e.symm).1; omega)).trans ((Below.heap_alloc _ _ _ (Array.getElem?_eq_some_iff.1 S1.out.box).1).trans S1.out.box)
    obtain ⟨_, v0, v1, v2, v3, v4, v5, v6⟩ := gcells7 hrb
    clear hv1 hv2 hown' hgrow hat
    refine hK.out _ _ trivial (fun hHeld => ?_)
    clear hK K
    try simp only [Act.put, List.getElem_toArray, List.getElem_cons_zero, List.getElem_cons_succ, List.setIfInBounds_toArray, List.set_cons_zero, List.set_cons_succ]
    refine wpAnyH_take (i := 17) (oi := _) (v := ?_) rfl (by kernel_rfl) (by kernel_rfl) (by kernel_rfl) (fun _ _ _ h => h) (Or.inl ⟨by rfl, ?_⟩) (by first | assumption | trivial) ?_
    rotate_left
    · (intro w hSw; (try dsimp only at hSw); go_simp; try with_reducible rfl)
    try simp only [Act.put, List.getElem_toArray, List.getElem_cons_zero, List.getElem_cons_succ, List.setIfInBounds_toArray, List.set_cons_zero, List.set_cons_succ]
    refine wpAnyH_take (i := 18) (oi := _) (v := ?_) rfl (by kernel_rfl) (by kernel_rfl) (by kernel_rfl) (fun _ _ _ h => h) (Or.inl ⟨by rfl, ?_⟩) (by first | assumption | trivial) ?_
    rotate_left
    · (intro w hSw; (try dsimp only at hSw); go_simp; try with_reducible rfl)
    try simp only [Act.put, List.getElem_toArray, List.getElem_cons_zero, List.getElem_cons_succ, List.setIfInBounds_toArray, List.set_cons_zero, List.set_cons_succ]
    refine wpAnyH_ready (rs := [19]) (by kernel_rfl) (by simp) ?_
    refine AllReadyH.cons (o := _) rfl (fun K hK => ?_) AllReadyH.nil
    go_simp
    refine hK.out _ _ trivial (fun hHeld => ?_)
    clear hK K
    try simp only [Act.put, List.getElem_toArray, List.getElem_cons_zero, List.getElem_cons_succ, List.setIfInBounds_toArray, List.set_cons_zero, List.set_cons_succ]
    refine wpAnyH_done (by kernel_rfl) ?_ _
    go_wp2_with fail
    go_end0
    obtain ⟨P1, P2⟩ := S1.out.push hal HV1.out HV2.out HLC.out HIN.out HG.out HO.out rfl (by
      rcases HAT.out with e | e
      · exact .inl e.symm
      · exact .inr (by simpa [Value.ownBlock] using e))
    refine ⟨⟨_, rfl⟩, _, ?_, M1.out.trans P2⟩
    have e : ws.getD a [] = l := by rw [List.getD_eq_getElem?_getD, hal]; rfl
    unfold beginS
    rw [e]
    exact P1
  refine AllReadyH.cons (o := _) rfl (fun K hK => ?_) AllReadyH.nil
  go_simp
  refine hK.out _ _ trivial (fun hHeld => ?_)
  clear hK K
  try simp only [Act.put, List.getElem_toArray, List.getElem_cons_zero, List.getElem_cons_succ, List.setIfInBounds_toArray, List.set_cons_zero, List.set_cons_succ]
  refine wpAnyH_take (i := 12) (oi := _) (v := ?_) rfl (by kernel_rfl) (by kernel_rfl) (by kernel_rfl) (fun _ _ _ h => h) (Or.inl ⟨by rfl, ?_⟩) (by first | assumption | trivial) ?_
  rotate_left
  · (intro w hSw; (try dsimp only at hSw); go_simp; try with_reducible rfl)
  try simp only [Act.put, List.getElem_toArray, List.getElem_cons_zero, List.getElem_cons_succ, List.setIfInBounds_toArray, List.set_cons_zero, List.set_cons_succ]
  refine wpAnyH_ready (rs := [4, 13]) (by kernel_rfl) (by simp) ?_
  refine AllReadyH.cons (o := _) rfl (fun K hK => ?_) ?_
  · go_simp
    refine hK.out _ _ trivial (fun hHeld => ?_)
    clear hK K
    try simp only [Act.put, List.getElem_toArray, List.getElem_cons_zero, List.getElem_cons_succ, List.setIfInBounds_toArray, List.set_cons_zero, List.set_cons_succ]
    refine wpAnyH_ready (rs := [13]) (by kernel_rfl) (by simp) ?_
    refine AllReadyH.cons (o := _) rfl (fun K hK => ?_) AllReadyH.nil
    go_simp
    refine hK.out _ _ trivial (fun hHeld => ?_)
    clear hK K
    try simp only [Act.put, List.getElem_toArray, List.getElem_cons_zero, List.getElem_cons_succ, List.setIfInBounds_toArray, List.set_cons_zero, List.set_cons_succ]
    refine wpAnyH_take (i := 14) (oi := _) (v := ?_) rfl (by kernel_rfl) (by kernel_rfl) (by kernel_rfl) (fun _ _ _ h => h) (Or.inl ⟨by rfl, ?_⟩) (by first | assumption | trivial) ?_
    rotate_left
    · (intro w hSw; (try dsimp only at hSw); go_simp; try with_reducible rfl)
    try simp only [Act.put, List.getElem_toArray, List.getElem_cons_zero, List.getElem_cons_succ, List.setIfInBounds_toArray, List.set_cons_zero, List.set_cons_succ]
    refine wpAnyH_ready (rs := [15]) (by kernel_rfl) (by simp) ?_
    refine AllReadyH.cons (o := _) rfl (fun K hK => ?_) AllReadyH.nil
    go_simp
    obtain ⟨⟨_, _, _, _, _, xa5, _⟩, _⟩ := gcells7 (((gnew wd (.cells #[.int .i64 a, .slice A l.length c] 99)).block r (Array.getElem?_eq_some_iff.1 S1.out.box).1).trans S1.out.box)
    refine hK.out _ _ trivial (fun hHeld => ?_)
    clear hK K
    try simp only [Act.put, List.getElem_toArray, List.getElem_cons_zero, List.getElem_cons_succ, List.setIfInBounds_toArray, List.set_cons_zero, List.set_cons_succ]
    refine wpAnyH_ready (rs := [16]) (by kernel_rfl) (by simp) ?_
    refine AllReadyH.cons (o := _) rfl (fun K hK => ?_) AllReadyH.nil
    obtain ⟨vs, hv1, hv2⟩ := S1.out.way
    rw [List.length_reverse] at hv1
    refine gstep_app rfl _ _ 82 (by rfl) (r + 1) 99 i0 zz 2 32 Try.underlying82 hi0 kz0 kz1 kz2 kz3 (by decide) _ s.stk.length vs (by rfl) (hv1.alloc _) ⟨wd.heap.size, 0, none⟩ 1 1 [.int .i64 a, .slice A l.length c] (by rfl) rfl (gtwo_news _ _ _ _ rfl) (by intro y hy; simp at hy; rcases hy with rfl | rfl <;> rfl) (by unfold maxLen; omega) (by omega) (by have := (Array.getElem?_eq_some_iff.1 S1.out.box).1; simp; omega) ?_
    intro v' w' hown' hgrow hat
    obtain ⟨g', cap', rfl⟩ := ownsRow_succ hown'
    have HO := Lib.hid hown'
    have HG := Lib.hid hgrow
    have HAT := Lib.hid hat
    have HV1 := Lib.hid hv1
    have HV2 := Lib.hid hv2
    have hrb := (hgrow.block r (by have := (Array.getElem?_eq_some_iff.1 S1.out.box).1; simp; omega) (fun e => by have := (hv1.lt r e.symm).1; omega)).trans ((Below.heap_alloc _ _ _ (Array.getElem?_eq_some_iff.1 S1.out.box).1).trans S1.out.box)
    obtain ⟨_, v0, v1, v2, v3, v4, v5, v6⟩ := gcells7 hrb
    clear hv1 hv2 hown' hgrow hat
    refine hK.out _ _ trivial (fun hHeld => ?_)
    clear hK K
    try simp only [Act.put, List.getElem_toArray, List.getElem_cons_zero, List.getElem_cons_succ, List.setIfInBounds_toArray, List.set_cons_zero, List.set_cons_succ]
    refine wpAnyH_take (i := 17) (oi := _) (v := ?_) rfl (by kernel_rfl) (by kernel_rfl) (by kernel_rfl) (fun _ _ _ h => h) (Or.inl ⟨by rfl, ?_⟩) (by first | assumption | trivial) ?_
    rotate_left
    · (intro w hSw; (try dsimp only at hSw); go_simp; try with_reducible rfl)
    try simp only [Act.put, List.getElem_toArray, List.getElem_cons_zero, List.getElem_cons_succ, List.setIfInBounds_toArray, List.set_cons_zero, List.set_cons_succ]
    refine wpAnyH_take (i := 18) (oi := _) (v := ?_) rfl (by kernel_rfl) (by kernel_rfl) (by kernel_rfl) (fun _ _ _ h => h) (Or.inl ⟨by rfl, ?_⟩) (by first | assumption | trivial) ?_
    rotate_left
    · (intro w hSw; (try dsimp only at hSw); go_simp; try with_reducible rfl)
    try simp only [Act.put, List.getElem_toArray, List.getElem_cons_zero, List.getElem_cons_succ, List.setIfInBounds_toArray, List.set_cons_zero, List.set_cons_succ]
    refine wpAnyH_ready (rs := [19]) (by kernel_rfl) (by simp) ?_
    refine AllReadyH.cons (o := _) rfl (fun K hK => ?_) AllReadyH.nil
    go_simp
    refine hK.out _ _ trivial (fun hHeld => ?_)
    clear hK K
    try simp only [Act.put, List.getElem_toArray, List.getElem_cons_zero, List.getElem_cons_succ, List.setIfInBounds_toArray, List.set_cons_zero, List.set_cons_succ]
    refine wpAnyH_done (by kernel_rfl) ?_ _
    go_wp2_with fail
    go_end0
    obtain ⟨P1, P2⟩ := S1.out.push hal HV1.out HV2.out HLC.out HIN.out HG.out HO.out rfl (by
      rcases HAT.out with e | e
      · exact .inl e.symm
      · exact .inr (by simpa [Value.ownBlock] using e))
    refine ⟨⟨_, rfl⟩, _, ?_, M1.out.trans P2⟩
    have e : ws.getD a [] = l := by rw [List.getD_eq_getElem?_getD, hal]; rfl
    unfold beginS
    rw [e]
    exact P1
  refine AllReadyH.cons (o := _) rfl (fun K hK => ?_) AllReadyH.nil
  go_simp
  refine hK.out _ _ trivial (fun hHeld => ?_)
  clear hK K
  try simp only [Act.put, List.getElem_toArray, List.getElem_cons_zero, List.getElem_cons_succ, List.setIfInBounds_toArray, List.set_cons_zero, List.set_cons_succ]
  refine wpAnyH_take (i := 14) (oi := _) (v := ?_) rfl (by kernel_rfl) (by kernel_rfl) (by kernel_rfl) (fun _ _ _ h => h) (Or.inl ⟨by rfl, ?_⟩) (by first | assumption | trivial) ?_
  rotate_left
  · (intro w hSw; (try dsimp only at hSw); go_simp; try with_reducible rfl)
  try simp only [Act.put, List.getElem_toArray, List.getElem_cons_zero, List.getElem_cons_succ, List.setIfInBounds_toArray, List.set_cons_zero, List.set_cons_succ]
  refine wpAnyH_ready (rs := [4, 15]) (by kernel_rfl) (by simp) ?_
  refine AllReadyH.cons (o := _) rfl (fun K hK => ?_) ?_
  · go_simp
    refine hK.out _ _ trivial (fun hHeld => ?_)
    clear hK K
    try simp only [Act.put, List.getElem_toArray, List.getElem_cons_zero, List.getElem_cons_succ, List.setIfInBounds_toArray, List.set_cons_zero, List.set_cons_succ]
    refine wpAnyH_ready (rs := [15]) (by kernel_rfl) (by simp) ?_
    refine AllReadyH.cons (o := _) rfl (fun K hK => ?_) AllReadyH.nil
    go_simp
    obtain ⟨⟨_, _, _, _, _, xa5, _⟩, _⟩ := gcells7 (((gnew wd (.cells #[.int .i64 a, .slice A l.length c] 99)).block r (Array.getElem?_eq_some_iff.1 S1.out.box).1).trans S1.out.box)
    refine hK.out _ _ trivial (fun hHeld => ?_)
    clear hK K
    try simp only [Act.put, List.getElem_toArray, List.getElem_cons_zero, List.getElem_cons_succ, List.setIfInBounds_toArray, List.set_cons_zero, List.set_cons_succ]
    refine wpAnyH_ready (rs := [16]) (by kernel_rfl) (by simp) ?_
    refine AllReadyH.cons (o := _) rfl (fun K hK => ?_) AllReadyH.nil
    obtain ⟨vs, hv1, hv2⟩ := S1.out.way
    rw [List.length_reverse] at hv1
    refine gstep_app rfl _ _ 82 (by rfl) (r + 1) 99 i0 zz 2 32 Try.underlying82 hi0 kz0 kz1 kz2 kz3 (by decide) _ s.stk.length vs (by rfl) (hv1.alloc _) ⟨wd.heap.size, 0, none⟩ 1 1 [.int .i64 a, .slice A l.length c] (by rfl) rfl (gtwo_news _ _ _ _ rfl) (by intro y hy; simp at hy; rcases hy with rfl | rfl <;> rfl) (by unfold maxLen; omega) (by omega) (by have := (Array.getElem?_eq_some_iff.1 S1.out.box).1; simp; omega) ?_
    intro v' w' hown' hgrow hat
    obtain ⟨g', cap', rfl⟩ := ownsRow_succ hown'
    have HO := Lib.hid hown'
    have HG := Lib.hid hgrow
    have HAT := Lib.hid hat
    have HV1 := Lib.hid hv1
    have HV2 := Lib.hid hv2
    have hrb := (hgrow.block r (by have := (Array.getElem?_eq_some_iff.1 S1.out.box).1; simp; omega) (fun e => by have := (hv1.lt r e.symm).1; omega)).trans ((Below.heap_alloc _ _ _ (Array.getElem?_eq_some_iff.1 S1.out.box).1).trans S1.out.box)
    obtain ⟨_, v0, v1, v2, v3, v4, v5, v6⟩ := gcells7 hrb
    clear hv1 hv2 hown' hgrow hat
    refine hK.out _ _ trivial (fun hHeld => ?_)
    clear hK K
    try simp only [Act.put, List.getElem_toArray, List.getElem_cons_zero, List.getElem_cons_succ, List.setIfInBounds_toArray, List.set_cons_zero, List.set_cons_succ]
    refine wpAnyH_take (i := 17) (oi := _) (v := ?_) rfl (by kernel_rfl) (by kernel_rfl) (by kernel_rfl) (fun _ _ _ h => h) (Or.inl ⟨by rfl, ?_⟩) (by first | assumption | trivial) ?_
    rotate_left
    · (intro w hSw; (try dsimp only at hSw); go_simp; try with_reducible rfl)
    try simp only [Act.put, List.getElem_toArray, List.getElem_cons_zero, List.getElem_cons_succ, List.setIfInBounds_toArray, List.set_cons_zero, List.set_cons_succ]
    refine wpAnyH_take (i := 18) (oi := _) (v := ?_) rfl (by kernel_rfl) (by kernel_rfl) (by kernel_rfl) (fun _ _ _ h => h) (Or.inl ⟨by rfl, ?_⟩) (by first | assumption | trivial) ?_
    rotate_left
    · (intro w hSw; (try dsimp only at hSw); go_simp; try with_reducible rfl)
    try simp only [Act.put, List.getElem_toArray, List.getElem_cons_zero, List.getElem_cons_succ, List.setIfInBounds_toArray, List.set_cons_zero, List.set_cons_succ]
    refine wpAnyH_ready (rs := [19]) (by kernel_rfl) (by simp) ?_
    refine AllReadyH.cons (o := _) rfl (fun K hK => ?_) AllReadyH.nil
    go_simp
    refine hK.out _ _ trivial (fun hHeld => ?_)
    clear hK K
    try simp only [Act.put, List.getElem_toArray, List.getElem_cons_zero, List.getElem_cons_succ, List.setIfInBounds_toArray, List.set_cons_zero, List.set_cons_succ]
    refine wpAnyH_done (by kernel_rfl) ?_ _
    go_wp2_with fail
    go_end0
    obtain ⟨P1, P2⟩ := S1.out.push hal HV1.out HV2.out HLC.out HIN.out HG.out HO.out rfl (by
      rcases HAT.out with e | e
      · exact .inl e.symm
      · exact .inr (by simpa [Value.ownBlock] using e))
    refine ⟨⟨_, rfl⟩, _, ?_, M1.out.trans P2⟩
    have e : ws.getD a [] = l := by rw [List.getD_eq_getElem?_getD, hal]; rfl
    unfold beginS
    rw [e]
    exact P1
  refine AllReadyH.cons (o := _) rfl (fun K hK => ?_) AllReadyH.nil
  go_simp
  obtain ⟨⟨_, _, _, _, _, xa5, _⟩, _⟩ := gcells7 (((gnew wd (.cells #[.int .i64 a, .slice A l.length c] 99)).block r (Array.getElem?_eq_some_iff.1 S1.out.box).1).trans S1.out.box)
  refine hK.out _ _ trivial (fun hHeld => ?_)
  clear hK K
  try simp only [Act.put, List.getElem_toArray, List.getElem_cons_zero, List.getElem_cons_succ, List.setIfInBounds_toArray, List.set_cons_zero, List.set_cons_succ]
  refine wpAnyH_ready (rs := [4]) (by kernel_rfl) (by simp) ?_
  refine AllReadyH.cons (o := _) rfl (fun K hK => ?_) AllReadyH.nil
  go_simp
  refine hK.out _ _ trivial (fun hHeld => ?_)
  clear hK K
  try simp only [Act.put, List.getElem_toArray, List.getElem_cons_zero, List.getElem_cons_succ, List.setIfInBounds_toArray, List.set_cons_zero, List.set_cons_succ]
  refine wpAnyH_ready (rs := [16]) (by kernel_rfl) (by simp) ?_
  refine AllReadyH.cons (o := _) rfl (fun K hK => ?_) AllReadyH.nil
  obtain ⟨vs, hv1, hv2⟩ := S1.out.way
  rw [List.length_reverse] at hv1
  refine gstep_app rfl _ _ 82 (by rfl) (r + 1) 99 i0 zz 2 32 Try.underlying82 hi0 kz0 kz1 kz2 kz3 (by decide) _ s.stk.length vs (by rfl) (hv1.alloc _) ⟨wd.heap.size, 0, none⟩ 1 1 [.int .i64 a, .slice A l.length c] (by rfl) rfl (gtwo_news _ _ _ _ rfl) (by intro y hy; simp at hy; rcases hy with rfl | rfl <;> rfl) (by unfold maxLen; omega) (by omega) (by have := (Array.getElem?_eq_some_iff.1 S1.out.box).1; simp; omega) ?_
  intro v' w' hown' hgrow hat
  obtain ⟨g', cap', rfl⟩ := ownsRow_succ hown'
  have HO := Lib.hid hown'
  have HG := Lib.hid hgrow
  have HAT := Lib.hid hat
  have HV1 := Lib.hid hv1
  have HV2 := Lib.hid hv2
  have hrb := (hgrow.block r (by have := (Array.getElem?_eq_some_iff.1 S1.out.box).1; simp; omega) (fun e => by have := (hv1.lt r e.symm).1; omega)).trans ((Below.heap_alloc _ _ _ (Array.getElem?_eq_some_iff.1 S1.out.box).1).trans S1.out.box)
  obtain ⟨_, v0, v1, v2, v3, v4, v5, v6⟩ := gcells7 hrb
  clear hv1 hv2 hown' hgrow hat
  refine hK.out _ _ trivial (fun hHeld => ?_)
  clear hK K
  try simp only [Act.put, List.getElem_toArray, List.getElem_cons_zero, List.getElem_cons_succ, List.setIfInBounds_toArray, List.set_cons_zero, List.set_cons_succ]
  refine wpAnyH_take (i := 17) (oi := _) (v := ?_) rfl (by kernel_rfl) (by kernel_rfl) (by kernel_rfl) (fun _ _ _ h => h) (Or.inl ⟨by rfl, ?_⟩) (by first | assumption | trivial) ?_
  rotate_left
  · (intro w hSw; (try dsimp only at hSw); go_simp; try with_reducible rfl)
  try simp only [Act.put, List.getElem_toArray, List.getElem_cons_zero, List.getElem_cons_succ, List.setIfInBounds_toArray, List.set_cons_zero, List.set_cons_succ]
  refine wpAnyH_take (i := 18) (oi := _) (v := ?_) rfl (by kernel_rfl) (by kernel_rfl) (by kernel_rfl) (fun _ _ _ h => h) (Or.inl ⟨by rfl, ?_⟩) (by first | assumption | trivial) ?_
  rotate_left
  · (intro w hSw; (try dsimp only at hSw); go_simp; try with_reducible rfl)
  try simp only [Act.put, List.getElem_toArray, List.getElem_cons_zero, List.getElem_cons_succ, List.setIfInBounds_toArray, List.set_cons_zero, List.set_cons_succ]
  refine wpAnyH_ready (rs := [19]) (by kernel_rfl) (by simp) ?_
  refine AllReadyH.cons (o := _) rfl (fun K hK => ?_) AllReadyH.nil
  go_simp
  refine hK.out _ _ trivial (fun hHeld => ?_)
  clear hK K
  try simp only [Act.put, List.getElem_toArray, List.getElem_cons_zero, List.getElem_cons_succ, List.setIfInBounds_toArray, List.set_cons_zero, List.set_cons_succ]
  refine wpAnyH_done (by kernel_rfl) ?_ _
  go_wp2_with fail
  go_end0
  obtain ⟨P1, P2⟩ := S1.out.push hal HV1.out HV2.out HLC.out HIN.out HG.out HO.out rfl (by
    rcases HAT.out with e | e
    · exact .inl e.symm
    · exact .inr (by simpa [Value.ownBlock] using e))
  refine ⟨⟨_, rfl⟩, _, ?_, M1.out.trans P2⟩
  have e : ws.getD a [] = l := by rw [List.getD_eq_getElem?_getD, hal]; rfl
  unfold beginS
  rw [e]
  exact P1
end Go.Proofs.Ytohkimibphleaaa
