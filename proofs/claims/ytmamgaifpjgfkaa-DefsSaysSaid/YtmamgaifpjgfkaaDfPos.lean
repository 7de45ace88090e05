/- The closure of defs.Possible; slices.IndexFunc and slices.DeleteFunc over it. -/
import Derived.Test.YtmamgaifpjgfkaaDfRow
import Derived.Lib.SliceRun
namespace Go.Proofs.Ytmamgaifpjgfkaa
open Go.RowKit

/-- A captured schema: its box. -/
def CapS (S : SchT) (B sb : Nat) (w : World) : Prop := ∃ c0 c1 c2, w.heap[sb]? = some (.cells #[c0, c1, c2] 24 (0, 0)) ∧ TS w (fun b => b < B) (encSch S) [c0, c1, c2]
theorem CapS.low {S : SchT} {B sb K : Nat} {w w' : World} (h : CapS S B sb w) (hb : Below K w w') (hB : B ≤ K) (hs : sb < K) : CapS S B sb w' := by
  obtain ⟨c0, c1, c2, h1, h2⟩ := h
  exact ⟨c0, c1, c2, (hb.block _ hs).trans h1, TS.low (hb.mono hB) h2⟩
theorem CapS.lt {S : SchT} {B sb : Nat} {w : World} (h : CapS S B sb w) : sb < w.heap.size := by
  obtain ⟨c0, c1, c2, h1, _⟩ := h
  exact (Array.getElem?_eq_some_iff.1 h1).1
theorem three_cells {w : World} {g : Nat} {c0 c1 c2 : Value} {t : TypeId} (h : w.heap[g]? = some (.cells #[c0, c1, c2] t (0, 0))) : w.cell? ⟨g, 0, none⟩ = some c0 ∧ w.cell? ⟨g, 1, none⟩ = some c1 ∧ w.cell? ⟨g, 2, none⟩ = some c2 := by
  simp [World.cell?, h]
/-- Is it the name of an Object? -/
def objB (S : SchT) (n : ByteArray) : Bool := isD S.defs n [1]
set_option maxRecDepth 100000 in
set_option maxHeartbeats 4000000 in
theorem pos1_any (S : SchT) (n : ByteArray) (w : World) (B sb : Nat) (hB : B ≤ w.heap.size) (hn : n.size ≤ 9223372036854775807) (hC : CapS S B sb w) :
    Calls Try.prog 38 #[.string n, .pointer (some ⟨sb, 0, none⟩)] w fun e w' => e = .returned (.bool (!objB S n)) ∧ Below w.heap.size w w' := by
  obtain ⟨c0, c1, c2, h1, h2⟩ := hC
  have F := fun (wx : World) (hb : Below w.heap.size w wx) (hk : IntsAt wx wx.heap.size (some ⟨w.heap.size, 0, none⟩) [1]) => Lib.hid (is_any S n [1] (some ⟨w.heap.size, 0, none⟩) 1 1 c0 c1 c2 wx B (Nat.le_trans hB hb.size) hn (by decide) rfl hk (TS.low (hb.mono hB) h2))
  obtain ⟨A, k, e, _⟩ := sch_cells h2
  injection e with e0 e
  injection e with e1 e
  injection e with e2 e
  subst e0 e1 e2
  obtain ⟨y0, y1, y2⟩ := three_cells h1
  clear hB e hn h1 h2
  unfold objB
  generalize isD S.defs n [1] = x at F ⊢
  have B0 := Lib.hid (fun o => dbelow_new w o)
  have I0 := Lib.hid (fun (t : TypeId) => ints_new w (o := .cells #[.int .i64 1] t) (l := [1]) (B := w.heap.size + 1) (by simp) rfl)
  go_enter Try.func38, Try.ntmps38
  go_wp2_with fail
  refine (F _ (B0.out _) (by have := I0.out 3; simpa using this)).out.mono ?_
  rintro e w1 ⟨rfl, hb1⟩
  have B1 := Lib.hid ((B0.out _).trans (hb1.mono (B0.out _).size))
  clear hb1 F
  go_wp2_with fail
  go_ret
  exact ⟨rfl, B1.out⟩
/-- The first that is no Object's. -/
def FirstO (S : SchT) (xs : List ByteArray) (k : Int) : Prop := (k = -1 ∧ ∀ x, x ∈ xs → objB S x = true) ∨ ∃ j : Nat, k = (j : Int) ∧ (∃ x, xs[j]? = some x ∧ objB S x = false) ∧ ∀ x, x ∈ xs.take j → objB S x = true
def IdxO (S : SchT) (xs : List ByteArray) (w : World) (e : Ending) (w' : World) : Prop := ∃ k : Int, e = .returned (.int .i64 k) ∧ FirstO S xs k ∧ Below w.heap.size w w'
theorem all_take {S : SchT} {xs : List ByteArray} {k : Nat} {x : ByteArray} (h : ∀ y, y ∈ xs.take k → objB S y = true) (hx : xs[k]? = some x) (ho : objB S x = true) : ∀ y, y ∈ xs.take (k + 1) → objB S y = true := by
  intro y hy
  rw [List.take_add_one, hx] at hy
  rcases List.mem_append.1 hy with h1 | h1
  · exact h y h1
  · simp at h1; subst h1; exact ho
set_option maxRecDepth 100000 in
set_option maxHeartbeats 4000000 in
theorem indexf_any (S : SchT) (A : Option Addr) (n c : Nat) (xs : List ByteArray) (w : World) (B sb : Nat) (hB : B ≤ w.heap.size) (hn : n ≤ 9223372036854775807) (hs : StrB xs) (ha : Blk.StrsAt w w.heap.size A n xs) (hC : CapS S B sb w) :
    Calls Try.prog 52 #[.slice A n c, .func (.func 38) #[] #[.pointer (some ⟨sb, 0, none⟩)]] w (IdxO S xs w) := by
  have hlt := hC.lt
  have F := fun (x : ByteArray) (hx : x ∈ xs) (wx : World) (hb : Below w.heap.size w wx) => Lib.hid (pos1_any S x wx B sb (Nat.le_trans hB hb.size) (hs x hx) (hC.low hb hB hlt))
  have HA := Lib.hid ha
  clear ha hC hlt hs hB
  go_enter Try.func52, Try.ntmps52
  go_wp2_with fail
  go_loopg [5, 8] n (fun g _ i wx => ∃ k : Nat, k + g = n ∧ i = .int .i64 k ∧ Below w.heap.size w wx ∧ Aside (∀ x, x ∈ xs.take k → objB S x = true))
  case atStart => exact ⟨0, by omega, rfl, Below.refl _ _, Blk.Aside.intro (by rw [List.take_zero]; intro x hx; simp at hx)⟩
  case round =>
    obtain ⟨k, hk, rfl, hb, H⟩ := hrel
    have HBB := Lib.hid hb
    clear hb
    cases gk with
    | zero =>
      obtain rfl : k = n := by omega
      have hd : Hid (∀ x, x ∈ xs → objB S x = true) := Lib.hid (by
        have h := H.out
        rwa [List.take_of_length_le (by rw [HA.out.1]; omega)] at h)
      clear H
      go_wp2_with fail
      go_ret
      exact ⟨-1, rfl, .inl ⟨rfl, hd.out⟩, HBB.out⟩
    | succ g =>
      have hlt : k < n := by omega
      have hlt' : (k : Int) < (n : Int) := by omega
      obtain ⟨x, hx⟩ : ∃ x, xs[k]? = some x := ⟨_, List.getElem?_eq_getElem (by rw [HA.out.1]; omega)⟩
      obtain ⟨b1, o1, rfl, hl1, c1⟩ := HA.out.2 k x hx
      have c1 := (HBB.out.cell (p := ⟨b1, o1 + k, none⟩) hl1).trans c1
      have HX := Lib.hid hx
      have hF := F x (List.mem_of_getElem? hx) wr HBB.out
      clear hx F
      cases ho : objB S x with
      | true =>
        rw [ho] at hF
        have hT := Lib.hid (all_take H.out HX.out ho)
        clear H
        go_wp2_with fail
        refine hF.out.mono ?_
        rintro e w2 ⟨rfl, hb2⟩
        have B2 := Lib.hid (HBB.out.trans (hb2.mono HBB.out.size))
        clear hb2 hF c1
        go_wp2_with fail
        go_roundg g
        case measure => omega
        case rel => exact ⟨k + 1, by omega, by go_num, B2.out, Blk.Aside.intro hT.out⟩
      | false =>
        rw [ho] at hF
        have HO := Lib.hid ho
        have HT := Lib.hid H.out
        clear H ho
        go_wp2_with fail
        refine hF.out.mono ?_
        rintro e w2 ⟨rfl, hb2⟩
        have B2 := Lib.hid (HBB.out.trans (hb2.mono HBB.out.size))
        clear hb2 hF c1
        go_wp2_with fail
        go_ret
        exact ⟨(k : Int), rfl, .inr ⟨k, rfl, ⟨x, HX.out, HO.out⟩, HT.out⟩, B2.out⟩
end Go.Proofs.Ytmamgaifpjgfkaa
