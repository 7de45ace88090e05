/- Rows of values: the cells of a level, of what stands within a value; the names of members, one after the other. -/
import Derived.Test.YtcdcfhplkimecaaDoorVTok
import Derived.Test.YtcdcfhplkimecaaDoorVCopy
import Derived.Test.YtcdcfhplkimecaaDoorVShelf
namespace Go.Proofs.YtcdcfhplkimecaaDoor
open Go.RowKit

/-- A row of values somewhere in memory; what each reaches lies below block B. -/
def RowV (w : World) (B : Nat) (l : VL) (A : Option Addr) : Prop := ∀ (j : Nat) v, l.get j = some v → ∃ b o c0 c1 c2 c3 c4, A = some ⟨b, o, none⟩ ∧ b < w.heap.size ∧ Five w b (o + j * 5) c0 c1 c2 c3 c4 ∧ VAt w B v c0 c1 c2 c3 c4
theorem RowV.of_list {w : World} {B : Nat} {l : VL} {A : Option Addr} (hB : B ≤ w.heap.size) (h : LAt w B l A 0) : RowV w B l A := fun j v hv => by
  obtain ⟨b, o, c0, c1, c2, c3, c4, hA, hlt, hf, hV⟩ := LAt.at h hv
  rw [Nat.zero_add] at hf
  exact ⟨b, o, c0, c1, c2, c3, c4, hA, Nat.lt_of_lt_of_le hlt hB, hf, hV⟩
theorem RowV.below {w w' : World} {B : Nat} {l : VL} {A : Option Addr} (h : RowV w B l A) (hB : B ≤ w.heap.size) (hb : Below w.heap.size w w') : RowV w' B l A := fun j v hv => by
  obtain ⟨b, o, c0, c1, c2, c3, c4, hA, hlt, hf, hV⟩ := h j v hv
  exact ⟨b, o, c0, c1, c2, c3, c4, hA, Nat.lt_of_lt_of_le hlt hb.size, hf.below hb hlt, VAt.below (hb.mono hB) _ _ _ _ _ _ hV⟩
/-- These cells in a row are the list's values. -/
def ValsA (w : World) (B : Nat) : VL → List Value → Prop
  | .nil, xs => xs = []
  | .cons v t, xs => ∃ c0 c1 c2 c3 c4 ys, xs = c0 :: c1 :: c2 :: c3 :: c4 :: ys ∧ VAt w B v c0 c1 c2 c3 c4 ∧ ValsA w B t ys
theorem ValsA.below {w w' : World} {B : Nat} (hb : Below B w w') : ∀ {l : VL} {xs : List Value}, ValsA w B l xs → ValsA w' B l xs
  | .nil, _, h => h
  | .cons v t, xs, h => by
    obtain ⟨c0, c1, c2, c3, c4, ys, e, hv, ht⟩ := h
    exact ⟨c0, c1, c2, c3, c4, ys, e, VAt.below hb _ _ _ _ _ _ hv, ValsA.below hb ht⟩
theorem ValsA.len {w : World} {B : Nat} : ∀ {l : VL} {xs : List Value}, ValsA w B l xs → xs.length = l.len * 5
  | .nil, xs, h => by
    have : xs = [] := h
    rw [this]; rfl
  | .cons v t, xs, h => by
    obtain ⟨c0, c1, c2, c3, c4, ys, rfl, hv, ht⟩ := h
    have := ValsA.len ht
    simp only [List.length_cons, VL.len]; omega
theorem ValsA.app {w : World} {B : Nat} : ∀ {l r : VL} {xs ys : List Value}, ValsA w B l xs → ValsA w B r ys → ValsA w B (l.app r) (xs ++ ys)
  | .nil, r, xs, ys, h, h' => by
    have : xs = [] := h
    rw [this]; exact h'
  | .cons v t, r, xs, ys, h, h' => by
    obtain ⟨c0, c1, c2, c3, c4, zs, rfl, hv, ht⟩ := h
    exact ⟨c0, c1, c2, c3, c4, zs ++ ys, by simp, hv, ValsA.app ht h'⟩
theorem VAt.one {w : World} {B : Nat} {v : VT} {c0 c1 c2 c3 c4 : Value} (h : VAt w B v c0 c1 c2 c3 c4) : c0.oneCell' = true ∧ c1.oneCell' = true ∧ c2.oneCell' = true ∧ c3.oneCell' = true ∧ c4.oneCell' = true := by
  obtain ⟨k, n, s, l, m⟩ := v
  unfold VAt at h
  obtain ⟨rfl, rfl, rfl, _, ⟨A, c, rfl, _, _⟩, A', c', rfl, _, _⟩ := h
  exact ⟨rfl, rfl, rfl, rfl, rfl⟩
theorem ValsA.one {w : World} {B : Nat} : ∀ {l : VL} {xs : List Value}, ValsA w B l xs → ∀ u ∈ xs, u.oneCell' = true
  | .nil, xs, h, u, hu => by
    have : xs = [] := h
    rw [this] at hu; simp at hu
  | .cons v t, xs, h, u, hu => by
    obtain ⟨c0, c1, c2, c3, c4, ys, rfl, hv, ht⟩ := h
    obtain ⟨h0, h1, h2, h3, h4⟩ := hv.one
    simp only [List.mem_cons] at hu
    rcases hu with rfl | rfl | rfl | rfl | rfl | hu
    · exact h0
    · exact h1
    · exact h2
    · exact h3
    · exact h4
    · exact ValsA.one ht u hu
theorem ValsA.get {w : World} {B : Nat} : ∀ {l : VL} {xs : List Value} {j : Nat} {v : VT}, ValsA w B l xs → l.get j = some v → ∃ c0 c1 c2 c3 c4, VAt w B v c0 c1 c2 c3 c4 ∧ xs[j * 5]? = some c0 ∧ xs[j * 5 + 1]? = some c1 ∧ xs[j * 5 + 2]? = some c2 ∧ xs[j * 5 + 3]? = some c3 ∧ xs[j * 5 + 4]? = some c4
  | .nil, _, _, _, _, h => by simp [VL.get] at h
  | .cons u t, xs, 0, v, h, hg => by
    have : u = v := by simpa [VL.get] using hg
    subst this
    obtain ⟨c0, c1, c2, c3, c4, ys, rfl, hv, ht⟩ := h
    exact ⟨c0, c1, c2, c3, c4, hv, rfl, rfl, rfl, rfl, rfl⟩
  | .cons u t, xs, j + 1, v, h, hg => by
    obtain ⟨c0, c1, c2, c3, c4, ys, rfl, hv, ht⟩ := h
    obtain ⟨d0, d1, d2, d3, d4, hv', h0, h1, h2, h3, h4⟩ := ValsA.get (l := t) (j := j) (v := v) ht hg
    refine ⟨d0, d1, d2, d3, d4, hv', ?_, ?_, ?_, ?_, ?_⟩
    · rw [show (j + 1) * 5 = j * 5 + 5 by omega]; simpa using h0
    · rw [show (j + 1) * 5 + 1 = (j * 5 + 1) + 5 by omega]; simpa using h1
    · rw [show (j + 1) * 5 + 2 = (j * 5 + 2) + 5 by omega]; simpa using h2
    · rw [show (j + 1) * 5 + 3 = (j * 5 + 3) + 5 by omega]; simpa using h3
    · rw [show (j + 1) * 5 + 4 = (j * 5 + 4) + 5 by omega]; simpa using h4
/-- The cells of a row, as a list. -/
theorem row_vals {w : World} {B b o : Nat} : ∀ (l : VL) (i : Nat), (∀ (j : Nat) v, l.get j = some v → ∃ c0 c1 c2 c3 c4, Five w b (o + (i + j) * 5) c0 c1 c2 c3 c4 ∧ VAt w B v c0 c1 c2 c3 c4) → ∃ xs, ValsA w B l xs ∧ ∀ j u, xs[j]? = some u → w.cell? ⟨b, o + i * 5 + j, none⟩ = some u
  | .nil, _, _ => ⟨[], rfl, fun j u h => by simp at h⟩
  | .cons v t, i, h => by
    obtain ⟨c0, c1, c2, c3, c4, hf, hv⟩ := h 0 v rfl
    obtain ⟨xs, hx, hc⟩ := row_vals t (i + 1) (fun j v hj => by
      have := h (j + 1) v hj
      rwa [show i + (j + 1) = i + 1 + j by omega] at this)
    refine ⟨c0 :: c1 :: c2 :: c3 :: c4 :: xs, ⟨c0, c1, c2, c3, c4, xs, rfl, hv, hx⟩, fun j u hj => ?_⟩
    obtain ⟨f0, f1, f2, f3, f4⟩ := hf
    rw [Nat.add_zero] at f0 f1 f2 f3 f4
    match j, hj with
    | 0, hj => cases hj; exact f0
    | 1, hj => cases hj; exact f1
    | 2, hj => cases hj; exact f2
    | 3, hj => cases hj; exact f3
    | 4, hj => cases hj; exact f4
    | j + 5, hj =>
      have := hc j u (by simpa using hj)
      rwa [show o + (i + 1) * 5 + j = o + i * 5 + (j + 5) by omega] at this
theorem RowV.vals {w : World} {B : Nat} {l : VL} {a : Addr} (h : RowV w B l (some a)) : ∃ xs, ValsA w B l xs ∧ ∀ j u, xs[j]? = some u → w.cell? (a.add j) = some u := by
  cases hl : l with
  | nil => exact ⟨[], rfl, fun j u h => by simp at h⟩
  | cons v t =>
    rw [hl] at h
    obtain ⟨b, o, _, _, _, _, _, hA, _, _, _⟩ := h 0 v rfl
    have ha : a = ⟨b, o, none⟩ := by injection hA
    subst ha
    obtain ⟨xs, hx, hc⟩ := row_vals (w := w) (B := B) (b := b) (o := o) (.cons v t) 0 (fun j v hv => by
      obtain ⟨b', o', c0, c1, c2, c3, c4, hA', _, hf, hV⟩ := h j v hv
      injection hA' with e
      injection e with e1 e2
      subst e1 e2
      rw [Nat.zero_add]
      exact ⟨c0, c1, c2, c3, c4, hf, hV⟩)
    refine ⟨xs, hx, fun j u hj => ?_⟩
    rw [add_at]
    have := hc j u hj
    rwa [Nat.zero_mul, Nat.add_zero] at this
/-- A row that is owned. -/
theorem row_owned {w : World} {base B : Nat} {V : Value} {l : VL} {xs : List Value} (h : w.ownsRow base 25 5 V l.len xs) (hv : ValsA w B l xs) : ∃ A c, V = .slice A l.len c ∧ RowV w B l A := by
  obtain ⟨A, c, rfl⟩ := shape_own h
  refine ⟨A, c, rfl, fun j v hj => ?_⟩
  rcases h.2 with ⟨hV, hn⟩ | ⟨g, cap, cur, hV, _, hg, _, _, _, _⟩
  · have := VL.nil_of_len hn
    subst this
    simp [VL.get] at hj
  · injection hV with e1 e2 e3
    subst e1
    obtain ⟨c0, c1, c2, c3, c4, hvj, h0, h1, h2, h3, h4⟩ := hv.get hj
    have hlt : ∀ i u, xs[i]? = some u → w.cell? ⟨g, i, none⟩ = some u := fun i u hu => by
      have hil := (List.getElem?_eq_some_iff.1 hu).1
      rw [h.1] at hil
      rw [World.ownsRow.cellAt h i hil, hu]
    have hgs : g < w.heap.size := (h.lt g rfl).2
    exact ⟨g, 0, c0, c1, c2, c3, c4, rfl, hgs, ⟨by rw [Nat.zero_add]; exact hlt _ _ h0, by rw [Nat.zero_add]; exact hlt _ _ h1, by rw [Nat.zero_add]; exact hlt _ _ h2, by rw [Nat.zero_add]; exact hlt _ _ h3, by rw [Nat.zero_add]; exact hlt _ _ h4⟩, hvj⟩
/- The names, one after the other. -/
def namesTo (p : List UInt8 → Bool) : VM → Nat → Bool
  | _, 0 => true
  | .nil, _ + 1 => true
  | .cons nm _ t, j + 1 => p nm.data.toList && namesTo p t j
theorem namesTo_zero (p : List UInt8 → Bool) (m : VM) : namesTo p m 0 = true := by cases m <;> rfl
theorem namesTo_next (p : List UInt8 → Bool) : ∀ {m : VM} {j : Nat} {nm : ByteArray} {v : VT}, m.get j = some (nm, v) → namesTo p m (j + 1) = (namesTo p m j && p nm.data.toList)
  | .nil, _, _, _, h => by simp [VM.get] at h
  | .cons x u t, 0, nm, v, h => by
    have : x = nm ∧ u = v := by simpa [VM.get] using h
    obtain ⟨rfl, rfl⟩ := this
    show (p x.data.toList && namesTo p t 0) = (true && p x.data.toList)
    rw [namesTo_zero]; simp
  | .cons x u t, j + 1, nm, v, h => by
    rw [namesTo, namesTo_next p (m := t) (j := j) (v := v) h, namesTo, Bool.and_assoc]
theorem namesTo_all (p : List UInt8 → Bool) : ∀ m : VM, namesTo p m m.len = namesB p m
  | .nil => rfl
  | .cons nm v t => by rw [VM.len, namesTo, namesTo_all p t, namesB]
theorem names_no (p : List UInt8 → Bool) : ∀ {m : VM} {j : Nat} {nm : ByteArray} {v : VT}, m.get j = some (nm, v) → p nm.data.toList = false → namesB p m = false
  | .nil, _, _, _, h, _ => by simp [VM.get] at h
  | .cons x u t, 0, nm, v, h, hp => by
    have : x = nm ∧ u = v := by simpa [VM.get] using h
    obtain ⟨rfl, rfl⟩ := this
    rw [namesB, hp]; rfl
  | .cons x u t, j + 1, nm, v, h, hp => by
    rw [namesB, names_no p (m := t) (j := j) h hp]; simp
theorem name_size : ∀ {m : VM} {j : Nat} {nm : ByteArray} {v : VT}, m.get j = some (nm, v) → nm.size ≤ sizeM m ∧ sizeV v ≤ sizeM m := fun h => by
  have := sizeM_get h
  omega
/-- What a test of names is: a function that only reads its text. -/
def TestC (fn : Nat) (p : List UInt8 → Bool) : Prop := (∀ args w, (callFunc fn args).run Tryd.prog w = .ok (.enter fn args) w) ∧ ∀ (s : ByteArray) (w : World), s.size ≤ 9000 → Laid5 w → Calls Tryd.prog fn #[.string s] w fun e w' => e = .returned (.bool (p s.data.toList)) ∧ Below w.heap.size w w'
end Go.Proofs.YtcdcfhplkimecaaDoor
