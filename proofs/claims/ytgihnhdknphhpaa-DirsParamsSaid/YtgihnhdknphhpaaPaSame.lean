/- seineref6.SameDirs over equal directives. -/
import Derived.Test.YtgihnhdknphhpaaVSame2
import Derived.Test.YtgihnhdknphhpaaTr
namespace Go.Proofs.Ytgihnhdknphhpaa
open Go.RowKit

theorem rowOf_at {α : Type} {f : α → TrS} {w : World} {P : Nat → Prop} (n : Nat) (hn : ∀ a, (f a).len = n) : ∀ {l : List α} {A : Option Addr} {q : Nat} {x : α}, RowT w P (rowOf f l) A → l[q]? = some x →
    ∃ b o cs, A = some ⟨b, o, none⟩ ∧ P b ∧ (∀ j u, cs[j]? = some u → w.cell? ⟨b, o + q * n + j, none⟩ = some u) ∧ TS w P (f x) cs
  | [], _, _, _, _, h => by simp at h
  | a :: t, A, 0, x, h, hx => by
    obtain rfl : a = x := by simpa using hx
    rw [rowOf] at h
    unfold RowT at h
    obtain ⟨b, o, cs, e, hb, hc, h1, _⟩ := h
    exact ⟨b, o, cs, e, hb, fun j u hj => by rw [Nat.zero_mul, Nat.add_zero]; exact hc j u hj, h1⟩
  | a :: t, A, q + 1, x, h, hx => by
    rw [rowOf] at h
    unfold RowT at h
    obtain ⟨b, o, cs, e, hb, hc, h1, h2⟩ := h
    have hx : t[q]? = some x := by simpa using hx
    obtain ⟨b', o', cs', e', hb', hc', h1'⟩ := rowOf_at n hn h2 hx
    have e' := Option.some.inj e'
    injection e' with e1 e2 _
    subst e1 e2
    rw [hn] at hc'
    exact ⟨b, o, cs', e, hb, fun j u hj => by rw [Nat.add_mul, Nat.one_mul, Nat.add_comm (q * n) n, ← Nat.add_assoc]; exact hc' j u hj, h1'⟩
theorem RowT.below {w w' : World} {B : Nat} (hb : Below B w w') {l : TrL} {A : Option Addr} (h : RowT w (fun b => b < B) l A) : RowT w' (fun b => b < B) l A :=
  RowT.keep (fun b hlt => ⟨hlt, hb.block b hlt⟩) _ _ h
theorem mat_of {w : World} {B : Nat} {m : VM} {A : Option Addr} (h : RowT w (fun b => b < B) (encM m) A) : MAt w B m A 0 := MP.at (fun _ h => h) m A 0 (tl_mp m A 0 (by rw [Nat.zero_mul, shiftA_zero]; exact h))
theorem encD_len (d : DirT) : (encD d).len = 2 := rfl
theorem dir_at {w : World} {B : Nat} {l : List DirT} {A : Option Addr} {q : Nat} {nm : ByteArray} {m : VM} (h : RowT w (fun b => b < B) (rowOf encD l) A) (hx : l[q]? = some (nm, m)) :
    ∃ b o A2 k2, A = some ⟨b, o, none⟩ ∧ b < B ∧ w.cell? ⟨b, o + q * 2, none⟩ = some (.string nm) ∧ w.cell? ⟨b, o + q * 2 + 1, none⟩ = some (.slice A2 m.len k2) ∧ m.len ≤ 9223372036854775807 ∧ MAt w B m A2 0 := by
  obtain ⟨b, o, cs, e, hb, hc, h1⟩ := rowOf_at 2 encD_len h hx
  simp only [encD, TS, TP] at h1
  obtain ⟨c0, _, rfl, ⟨rfl, _⟩, c1, _, rfl, ⟨A2, k2, rfl, hl, hM⟩, rfl⟩ := h1
  rw [encM_len] at hc hl
  exact ⟨b, o, A2, k2, e, hb, hc 0 _ rfl, hc 1 _ rfl, hl, mat_of hM⟩
theorem memb_yes (m : VM) (A A' : Option Addr) (c c' : Nat) (w : World) (B : Nat) (hB : B ≤ w.heap.size) (hl : m.len ≤ 9223372036854775807) (h1 : MAt w B m A 0) (h2 : MAt w B m A' 0) :
    Calls Try.prog 17 #[.slice A m.len c, .slice A' m.len c'] w fun e w' => e = .returned (.bool true) ∧ Below w.heap.size w w' := by
  refine (vmemb_any m m A A' c c' w B hB hl hl h1 h2).mono ?_
  rintro e' w' ⟨⟨b, rfl, hb⟩, hw⟩
  rw [hb.2 rfl]
  exact ⟨rfl, hw⟩
def KD (w : World) (b O : Nat) (nm d : Value) (b' O' : Nat) (nm' f : Value) (W : World) : Prop :=
  W.cell? ⟨b, O, none⟩ = some nm ∧ W.cell? ⟨b, O + 1, none⟩ = some d ∧ W.cell? ⟨b', O', none⟩ = some nm' ∧ W.cell? ⟨b', O' + 1, none⟩ = some f ∧ Below w.heap.size w W
theorem KD.next {w W W' : World} {b O : Nat} {nm d : Value} {b' O' : Nat} {nm' f : Value} (h : KD w b O nm d b' O' nm' f W) (hl : b < w.heap.size) (hl' : b' < w.heap.size) (hb : Below W.heap.size W W') : KD w b O nm d b' O' nm' f W' := by
  obtain ⟨h1, h2, h3, h4, hB⟩ := h
  have g := Nat.lt_of_lt_of_le hl hB.size
  have g' := Nat.lt_of_lt_of_le hl' hB.size
  exact ⟨(hb.cell (p := ⟨b, _, none⟩) g).trans h1, (hb.cell (p := ⟨b, _, none⟩) g).trans h2, (hb.cell (p := ⟨b', _, none⟩) g').trans h3, (hb.cell (p := ⟨b', _, none⟩) g').trans h4, hB.trans (hb.mono hB.size)⟩
theorem KD.written {w W : World} {b O : Nat} {nm d : Value} {b' O' : Nat} {nm' f : Value} (h : KD w b O nm d b' O' nm' f W) :
    W.cell? ⟨b, O, none⟩ = some nm ∧ W.cell? ⟨b, O + 1, none⟩ = some d ∧ W.cell? ⟨b', O', none⟩ = some nm' ∧ W.cell? ⟨b', O' + 1, none⟩ = some f ∧ KD w b O nm d b' O' nm' f W :=
  ⟨h.1, h.2.1, h.2.2.1, h.2.2.2.1, h⟩

end Go.Proofs.Ytgihnhdknphhpaa
