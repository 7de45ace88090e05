/- graph's search: its steps as plain functions; what its stores leave. -/
import Derived.Test.YtohkimibphleaaaGrNew
namespace Go.Proofs.Ytohkimibphleaaa
open Go.RowKit

/-- The first that is not reached, and what lies behind it; whether the search has come to where it came from. -/
def scanS (s : SS) (tn : Int) : List Nat → Bool → Option (Nat × List Nat) × Bool
  | [], rg => (none, rg)
  | x :: t, rg => if reachB s tn x = true then scanS s tn t (rg || !(s.en.getD x 0 == tn)) else (some (x, t), rg)
def stepS (ws : List (List Nat)) (tn : Int) (s : SS) : SS :=
  match s.stk with
  | [] => s
  | (a, l) :: rest =>
    match scanS s tn l s.ring with
    | (some (x, t), rg) => beginS ws tn x { s with stk := (a, t) :: rest, ring := rg }
    | (none, rg) => { s with en := s.en.set a tn, stk := rest, ring := rg }
def iterS (ws : List (List Nat)) (tn : Int) : Nat → SS → SS
  | 0, s => s
  | k + 1, s => stepS ws tn (iterS ws tn k s)
def ringQ (s : SS) (tn : Int) (l : List Nat) (q : Nat) : Bool := (l.take q).foldl (fun rg x => rg || !(s.en.getD x 0 == tn)) s.ring
theorem ringQ_zero (s : SS) (tn : Int) (l : List Nat) : ringQ s tn l 0 = s.ring := rfl
theorem ringQ_next {s : SS} {tn : Int} {l : List Nat} {q x : Nat} (h : l[q]? = some x) : ringQ s tn l (q + 1) = (ringQ s tn l q || !(s.en.getD x 0 == tn)) := by
  unfold ringQ
  rw [List.take_add_one, h, List.foldl_append]
  rfl
theorem scan_to {s : SS} {tn : Int} {l : List Nat} : ∀ {q : Nat}, (∀ (j x : Nat), j < q → l[j]? = some x → reachB s tn x = true) → q ≤ l.length → scanS s tn l s.ring = scanS s tn (l.drop q) (ringQ s tn l q)
  | 0, _, _ => by rw [List.drop_zero, ringQ_zero]
  | q + 1, h, hq => by
    rw [scan_to (q := q) (fun j x hj => h j x (by omega)) (by omega)]
    have hl : q < l.length := by omega
    have hx : l[q]? = some l[q] := List.getElem?_eq_getElem hl
    rw [List.drop_eq_getElem_cons hl, scanS, if_pos (h q _ (by omega) hx), ringQ_next hx]
theorem scan_some {s : SS} {tn : Int} {l : List Nat} {q x : Nat} (h : ∀ (j x : Nat), j < q → l[j]? = some x → reachB s tn x = true) (hx : l[q]? = some x) (hn : reachB s tn x = false) : scanS s tn l s.ring = (some (x, l.drop (q + 1)), ringQ s tn l q) := by
  have hl := (List.getElem?_eq_some_iff.1 hx).1
  have e : l[q] = x := (List.getElem?_eq_some_iff.1 hx).2
  rw [scan_to h (by omega), List.drop_eq_getElem_cons hl, e, scanS, if_neg (by rw [hn]; simp)]
theorem scan_none {s : SS} {tn : Int} {l : List Nat} (h : ∀ (j x : Nat), j < l.length → l[j]? = some x → reachB s tn x = true) : scanS s tn l s.ring = (none, ringQ s tn l l.length) := by
  rw [scan_to h (Nat.le_refl _), List.drop_length, scanS]
/-- How many are not begun in this turn. -/
def unb (s : SS) (tn : Int) : Nat := s.bg.countP fun v => !(v == tn)
def muS (s : SS) (tn : Int) : Nat := 2 * unb s tn + s.stk.length
structure OkR (ws : List (List Nat)) (tn : Int) (s : SS) : Prop where
  bl : s.bg.length = ws.length
  st : ∀ a l, (a, l) ∈ s.stk → a < ws.length ∧ l.length ≤ 1099511627776 ∧ ∀ x, x ∈ l → x < ws.length
  sz : s.stk.length + unb s tn ≤ ws.length
theorem unb_set {s : SS} {tn : Int} {x : Nat} (hl : x < s.bg.length) (h : reachB s tn x = false) : unb { s with bg := s.bg.set x tn } tn + 1 = unb s tn := by
  unfold unb
  have e : s.bg[x]'hl = s.bg.getD x 0 := by rw [List.getD_eq_getElem?_getD, List.getElem?_eq_getElem hl]; rfl
  have hp : (!(s.bg[x]'hl == tn)) = true := by rw [e]; unfold reachB at h; rw [h]; rfl
  have hc : 0 < s.bg.countP (fun v => !(v == tn)) := List.countP_pos_iff.2 ⟨s.bg[x]'hl, List.getElem_mem hl, hp⟩
  rw [List.countP_set hl, hp]
  simp
  omega
theorem OkR.begin {ws : List (List Nat)} {tn : Int} {s : SS} {x : Nat} (h : OkR ws tn s) (hws : ∀ l, l ∈ ws → l.length ≤ 1099511627776 ∧ ∀ x, x ∈ l → x < ws.length) (hx : x < ws.length) (hr : reachB s tn x = false) : OkR ws tn (beginS ws tn x s) ∧ muS (beginS ws tn x s) tn + 1 = muS s tn := by
  have hu := unb_set (by rw [h.bl]; exact hx) hr
  have hu2 : unb (beginS ws tn x s) tn = unb { s with bg := s.bg.set x tn } tn := rfl
  refine ⟨⟨by show (s.bg.set x tn).length = _; rw [List.length_set]; exact h.bl, fun a l hm => ?_, ?_⟩, ?_⟩
  · rcases List.mem_cons.1 hm with e | hm
    · injection e with e1 e2
      subst e1 e2
      refine ⟨hx, hws (ws.getD a []) ?_⟩
      rw [List.getD_eq_getElem?_getD, List.getElem?_eq_getElem hx]
      exact List.getElem_mem hx
    · exact h.st a l hm
  · have := h.sz
    show (s.stk.length + 1) + _ ≤ _
    rw [hu2]
    omega
  · unfold muS
    rw [hu2]
    show 2 * _ + (s.stk.length + 1) + 1 = _
    omega
theorem OkR.cut {ws : List (List Nat)} {tn : Int} {s : SS} {a : Nat} {l t : List Nat} {rest : List (Nat × List Nat)} {rg : Bool} (h : OkR ws tn s) (hs : s.stk = (a, l) :: rest) (hlt : t.length ≤ l.length) (ht : ∀ x, x ∈ t → x ∈ l) : OkR ws tn { s with stk := (a, t) :: rest, ring := rg } ∧ muS { s with stk := (a, t) :: rest, ring := rg } tn = muS s tn := by
  have h1 := h.st
  have h2 := h.sz
  rw [hs] at h1 h2
  refine ⟨⟨h.bl, fun b m hm => ?_, h2⟩, by unfold muS; rw [hs]; rfl⟩
  rcases List.mem_cons.1 hm with e | hm
  · injection e with e1 e2
    subst e1 e2
    have := h1 b l (List.mem_cons_self ..)
    exact ⟨this.1, Nat.le_trans hlt this.2.1, fun x hx => this.2.2 x (ht x hx)⟩
  · exact h1 b m (List.mem_cons_of_mem _ hm)
theorem OkR.pop {ws : List (List Nat)} {tn : Int} {s : SS} {a : Nat} {l : List Nat} {rest : List (Nat × List Nat)} {rg : Bool} {en : List Int} (h : OkR ws tn s) (hs : s.stk = (a, l) :: rest) : OkR ws tn { s with en := en, stk := rest, ring := rg } ∧ muS { s with en := en, stk := rest, ring := rg } tn + 1 = muS s tn := by
  have h1 := h.st
  have h2 := h.sz
  rw [hs] at h1 h2
  rw [List.length_cons] at h2
  refine ⟨⟨h.bl, fun b m hm => h1 b m (List.mem_cons_of_mem _ hm), ?_⟩, ?_⟩
  · show rest.length + unb s tn ≤ _
    omega
  · unfold muS
    rw [hs]
    rfl
section
variable {L r M gb ge cw : Nat} {Aw : Option Addr} {ws : List (List Nat)} {tn : Int} {Vy : Value} {s : SS} {W W' : World}
/-- The last step of the way. -/
theorem SrchG.top {a : Nat} {l : List Nat} {rest : List (Nat × List Nat)} (h : SrchG L r M gb ge Aw cw ws tn Vy s W) (hs : s.stk = (a, l) :: rest) : ∃ g cp A c, Vy = .slice (some ⟨g, 0, none⟩) (rest.length + 1) cp ∧ rest.length + 1 ≤ cp ∧ r < g ∧ g < W.heap.size ∧ W.cell? ⟨g, rest.length * 2, none⟩ = some (.int .i64 a) ∧ W.cell? ⟨g, rest.length * 2 + 1, none⟩ = some (.slice A l.length c) ∧ W.frozen? ⟨g, rest.length * 2 + 1, none⟩ = false ∧ l.length ≤ c ∧ IntsG W (fun b => b < L) A l := by
  obtain ⟨vs, h1, h2⟩ := h.way
  rw [hs, List.reverse_cons, List.length_append, List.length_reverse, List.length_singleton] at h1
  rw [hs, List.reverse_cons] at h2
  obtain ⟨A, c, g1, g2, g3, g4⟩ := h2 rest.length a l (by rw [List.getElem?_append_right (by rw [List.length_reverse]; exact Nat.le_refl _), List.length_reverse, Nat.sub_self]; rfl)
  obtain ⟨g, cp, rfl, hb, hg⟩ := World.ownsRow.form h1 (by omega)
  have c1 := h1.cells (g := g) rfl _ _ g1
  have c2 := h1.cells (g := g) rfl _ _ g2
  rw [add_at, Nat.zero_add, Nat.mul_comm] at c1
  rw [add_at, Nat.zero_add, Nat.mul_comm 2] at c2
  refine ⟨g, cp, A, c, rfl, ?_, hb, hg, c1, c2, h1.frozenAt _, g3, g4⟩
  rcases h1.2 with ⟨e, _⟩ | ⟨g', cap, cur, e, _, _, hnc, _⟩
  · cases e
  · simp only [Value.slice.injEq, true_and] at e
    obtain ⟨_, rfl⟩ := e
    exact hnc
theorem MoV.set {b i : Nat} {v V : Value} (hb : b = gb ∨ b = ge ∨ b = r ∨ V.ownBlock = some b) : MoV gb ge r W V (W.setCell ⟨b, i, none⟩ v) V := by
  refine ⟨rfl, rfl, rfl, by simp [World.setCell], fun c _ h1 h2 h3 h4 => Below.heap_setCell _ _ _ _ (fun (e : c = b) => ?_), fun _ h => .inl h⟩
  subst e
  rcases hb with e | e | e | e
  · exact h1 e
  · exact h2 e
  · exact h3 e
  · exact h4 e
theorem SrchG.setRing (h : SrchG L r M gb ge Aw cw ws tn Vy s W) (b : Bool) : SrchG L r M gb ge Aw cw ws tn Vy { s with ring := b } (W.setCell ⟨r, 6, none⟩ (.bool b)) := by
  have hl := h.lts
  have hks : ∀ c, c ≠ r → (W.setCell ⟨r, 6, none⟩ (.bool b)).heap[c]? = W.heap[c]? := fun c hne => Below.heap_setCell _ _ _ _ hne
  refine ⟨?_, h.bg.one (hks _ (by omega)), h.en.one (hks _ (by omega)), h.way.blk (fun c hc => hks c (by omega)) (fun c e => hks c (by have := (h.own c e).1; omega)), h.ways.below (fun c hc => hks c (by omega)), hl⟩
  have hb := h.box
  simp [World.setCell, Array.getElem?_modify, hb]
theorem SrchG.setEnd (h : SrchG L r M gb ge Aw cw ws tn Vy s W) (a : Nat) : SrchG L r M gb ge Aw cw ws tn Vy { s with en := s.en.set a tn } (W.setCell ⟨ge, a, none⟩ (.int .i64 tn)) := by
  have hl := h.lts
  have hL := h.en.lt
  have hks : ∀ c, c ≠ ge → (W.setCell ⟨ge, a, none⟩ (.int .i64 tn)).heap[c]? = W.heap[c]? := fun c hne => Below.heap_setCell _ _ _ _ hne
  exact ⟨(hks r (by omega)).trans h.box, h.bg.one (hks _ (by omega)), h.en.set a tn, h.way.blk (fun c hc => hks c (by omega)) (fun c e => hks c (by have := (h.own c e).1; omega)), h.ways.below (fun c hc => hks c (by omega)), hl⟩
theorem SrchG.setTop {a g cp c : Nat} {A : Option Addr} {l t : List Nat} {rest : List (Nat × List Nat)} (h : SrchG L r M gb ge Aw cw ws tn (.slice (some ⟨g, 0, none⟩) (rest.length + 1) cp) s W) (hs : s.stk = (a, l) :: rest) (hc : t.length ≤ c) (hA : IntsG W (fun b => b < L) A t) :
    SrchG L r M gb ge Aw cw ws tn (.slice (some ⟨g, 0, none⟩) (rest.length + 1) cp) { s with stk := (a, t) :: rest } (W.setCell ⟨g, rest.length * 2 + 1, none⟩ (.slice A t.length c)) := by
  have hl := h.lts
  have hg := h.own g rfl
  have hks : ∀ b, b ≠ g → (W.setCell ⟨g, rest.length * 2 + 1, none⟩ (.slice A t.length c)).heap[b]? = W.heap[b]? := fun b hne => Below.heap_setCell _ _ _ _ hne
  refine ⟨(hks r (by omega)).trans h.box, h.bg.one (hks _ (by omega)), h.en.one (hks _ (by omega)), ?_, h.ways.below (fun b hb => hks b (by omega)), hl⟩
  obtain ⟨vs, h1, h2⟩ := h.way
  rw [hs, List.reverse_cons, List.length_append, List.length_reverse, List.length_singleton] at h1
  rw [hs, List.reverse_cons] at h2
  have hlv : vs.length = (rest.length + 1) * 2 := h1.1
  show WayO _ L r _ ((a, t) :: rest).reverse
  rw [List.reverse_cons]
  refine ⟨vs.set (rest.length * 2 + 1) (.slice A t.length c), by rw [List.length_append, List.length_reverse, List.length_singleton]; exact (h1.stored _ _).1, fun j b m hj => ?_⟩
  rcases Nat.lt_or_ge j rest.length with hj1 | hj1
  · rw [List.getElem?_append_left (by rw [List.length_reverse]; exact hj1)] at hj
    obtain ⟨A', c', p1, p2, p3, p4⟩ := h2 j b m (by rw [List.getElem?_append_left (by rw [List.length_reverse]; exact hj1)]; exact hj)
    exact ⟨A', c', by rw [List.getElem?_set_ne (by omega)]; exact p1, by rw [List.getElem?_set_ne (by omega)]; exact p2, p3, p4.keep fun b hb => ⟨hb, hks b (by omega)⟩⟩
  · obtain rfl : j = rest.length := by
      have := (List.getElem?_eq_some_iff.1 hj).1
      simp at this
      omega
    obtain ⟨A', c', p1, _⟩ := h2 rest.length a l (by rw [List.getElem?_append_right (by rw [List.length_reverse]; exact Nat.le_refl _), List.length_reverse, Nat.sub_self]; rfl)
    rw [List.getElem?_append_right (by rw [List.length_reverse]; exact Nat.le_refl _), List.length_reverse, Nat.sub_self] at hj
    have e : (a, t) = (b, m) := by simpa using hj
    injection e with e1 e2
    subst e1 e2
    exact ⟨A, c, by rw [List.getElem?_set_ne (by omega)]; exact p1, by rw [show 2 * rest.length + 1 = rest.length * 2 + 1 by omega, List.getElem?_set_self (by omega)], hc, hA.keep fun b hb => ⟨hb, hks b (by omega)⟩⟩
theorem SrchG.pop {a g cp : Nat} {l : List Nat} {rest : List (Nat × List Nat)} (h : SrchG L r M gb ge Aw cw ws tn (.slice (some ⟨g, 0, none⟩) (rest.length + 1) cp) s W) (hs : s.stk = (a, l) :: rest) :
    SrchG L r M gb ge Aw cw ws tn (.slice (some ⟨g, 0, none⟩) rest.length cp) { s with stk := rest } (W.setCell ⟨r, 5, none⟩ (.slice (some ⟨g, 0, none⟩) rest.length cp)) := by
  have hl := h.lts
  have hg := h.own g rfl
  have hks : ∀ c, c ≠ r → (W.setCell ⟨r, 5, none⟩ (.slice (some ⟨g, 0, none⟩) rest.length cp)).heap[c]? = W.heap[c]? := fun c hne => Below.heap_setCell _ _ _ _ hne
  refine ⟨?_, h.bg.one (hks _ (by omega)), h.en.one (hks _ (by omega)), ?_, h.ways.below (fun c hc => hks c (by omega)), hl⟩
  · have hb := h.box
    simp [World.setCell, Array.getElem?_modify, hb]
  · obtain ⟨vs, h1, h2⟩ := h.way
    rw [hs, List.reverse_cons, List.length_append, List.length_reverse, List.length_singleton] at h1
    rw [hs, List.reverse_cons] at h2
    have hlv : vs.length = (rest.length + 1) * 2 := h1.1
    have hvs : vs = vs.take (rest.length * 2) ++ vs.drop (rest.length * 2) := (List.take_append_drop _ _).symm
    rw [hvs] at h1
    refine ⟨vs.take (rest.length * 2), by rw [List.length_reverse]; exact gown_one (ownsRow_pop (by rw [List.length_take]; omega) h1) (fun b e => hks b (by have e2 : g = b := by { simpa [Value.ownBlock] using e }; omega)), fun j b m hj => ?_⟩
    have hj1 : j < rest.length := by have := (List.getElem?_eq_some_iff.1 hj).1; simpa using this
    obtain ⟨A', c', p1, p2, p3, p4⟩ := h2 j b m (by rw [List.getElem?_append_left (by rw [List.length_reverse]; exact hj1)]; exact hj)
    exact ⟨A', c', by rw [List.getElem?_take_of_lt (by omega)]; exact p1, by rw [List.getElem?_take_of_lt (by omega)]; exact p2, p3, p4.keep fun b hb => ⟨hb, hks b (by omega)⟩⟩
theorem SrchG.shape (h : SrchG L r M gb ge Aw cw ws tn Vy s W) : ∃ A c, Vy = .slice A s.stk.length c := by
  obtain ⟨vs, h1, _⟩ := h.way
  rw [List.length_reverse] at h1
  exact shape_own h1
end
end Go.Proofs.Ytohkimibphleaaa
