/- Slices of strings: what they read as, kept while nothing below turns; small words for walks. -/
import Derived.Test.YtcfdfgbobnocnaaGreatDoorTr
import Derived.Test.YtcfdfgbobnocnaaGreatDoorVRow
import Derived.Test.YtcfdfgbobnocnaaGreatDoorChecked
import Derived.Test.YtcfdfgbobnocnaaGreatDoorBMath
import Derived.WalkKit
import Derived.Deep.LoopGhost
import Derived.Below
import Derived.Lib.Hide
import Derived.Laws.AppendOwn
import Derived.Laws.MakeOwn
import Derived.Laws.AppendOwnNone
import Derived.Deep.AppendLies
import Derived.Deep.QuietTactic
import Derived.BigQuiet
import Derived.Deep.Draws
namespace Go.Proofs.YtcfdfgbobnocnaaGreatDoor
open Go.RowKit

structure FieldT where
  name : ByteArray
  params : List VarT
  tn : ByteArray
  tl : Int
  tm : Int
  dirs : List DirT
structure DefnT where
  kind : Int
  name : ByteArray
  faces : List ByteArray
  fields : List FieldT
  parts : List ByteArray
  params : List VarT
structure SchT where
  defs : List DefnT
  query : ByteArray
  mutation : ByteArray
def encStr (s : ByteArray) : TrS := .cons (.one (.string s)) .nil
def encField (x : FieldT) : TrS := .cons (.one (.string x.name)) (.cons (.row (rowOf encVar x.params)) (.cons (.one (.string x.tn)) (.cons (.one (.int .i64 (x.tl : Int))) (.cons (.one (.int .i64 (x.tm : Int))) (.cons (.row (rowOf encD x.dirs)) .nil)))))
def encDefn (x : DefnT) : TrS := .cons (.one (.int .i64 x.kind)) (.cons (.one (.string x.name)) (.cons (.row (rowOf encStr x.faces)) (.cons (.row (rowOf encField x.fields)) (.cons (.row (rowOf encStr x.parts)) (.cons (.row (rowOf encVar x.params)) .nil)))))
def encSch (x : SchT) : TrS := .cons (.row (rowOf encDefn x.defs)) (.cons (.one (.string x.query)) (.cons (.one (.string x.mutation)) .nil))
def hasN (out : List ByteArray) (s : ByteArray) : Bool := out.any fun t => t.data.toList == s.data.toList
theorem hasN_iff {out : List ByteArray} {s : ByteArray} : hasN out s = true ↔ s ∈ out := by
  unfold hasN
  rw [List.any_eq_true]
  constructor
  · rintro ⟨t, h, e⟩
    have : t = s := ByteArray.ext (Array.toList_inj.1 (by simpa using e))
    rwa [← this]
  · intro h
    exact ⟨s, h, by simp⟩
def addN (out : List ByteArray) (s : ByteArray) : List ByteArray := if hasN out s = true then out else out ++ [s]
end Go.Proofs.YtcfdfgbobnocnaaGreatDoor
namespace Go.Proofs.YtcfdfgbobnocnaaGreatDoor
open Go.RowKit

/-- The two boxes, what of them the loop and the end read. -/
def KS (w : World) (a3 a4 b3 b4 : Value) (W : World) : Prop := W.cell? ⟨w.heap.size, 3, none⟩ = some a3 ∧ W.cell? ⟨w.heap.size, 4, none⟩ = some a4 ∧ W.cell? ⟨w.heap.size + 1, 3, none⟩ = some b3 ∧ W.cell? ⟨w.heap.size + 1, 4, none⟩ = some b4 ∧ Below w.heap.size w W ∧ w.heap.size + 1 < W.heap.size
theorem KS.next {w W W' : World} {a3 a4 b3 b4 : Value} (h : KS w a3 a4 b3 b4 W) (hb : Below W.heap.size W W') : KS w a3 a4 b3 b4 W' := by
  obtain ⟨h1, h2, h3, h4, hB, hs⟩ := h
  have hs0 : w.heap.size < W.heap.size := by omega
  exact ⟨(hb.cell (p := ⟨_, _, none⟩) hs0).trans h1, (hb.cell (p := ⟨_, _, none⟩) hs0).trans h2, (hb.cell (p := ⟨_, _, none⟩) hs).trans h3, (hb.cell (p := ⟨_, _, none⟩) hs).trans h4, hB.trans (hb.mono hB.size), Nat.lt_of_lt_of_le hs hb.size⟩
theorem KS.start (w : World) (c0 c1 c2 c3 c4 d0 d1 d2 d3 d4 : Value) (t : TypeId) : KS w c3 c4 d3 d4 ((w.alloc (.cells #[c0, c1, c2, c3, c4] t)).alloc (.cells #[d0, d1, d2, d3, d4] t)) := by
  have k0 : ((w.alloc (.cells #[c0, c1, c2, c3, c4] t)).alloc (.cells #[d0, d1, d2, d3, d4] t)).heap[w.heap.size]? = some (.cells #[c0, c1, c2, c3, c4] t) := by
    rw [Below.heap_alloc _ _ _ (by simp)]
    show (w.heap.push _)[w.heap.size]? = _; simp
  have k1 : ((w.alloc (.cells #[c0, c1, c2, c3, c4] t)).alloc (.cells #[d0, d1, d2, d3, d4] t)).heap[w.heap.size + 1]? = some (.cells #[d0, d1, d2, d3, d4] t) := by
    show ((w.heap.push _).push _)[w.heap.size + 1]? = _
    rw [Array.getElem?_push, if_pos (by simp)]
  refine ⟨?_, ?_, ?_, ?_, ((Below.refl _ _).alloc (Nat.le_refl _) _).alloc (by simp) _, by simp⟩
  all_goals (simp only [World.cell?]; first | (rw [k0]; rfl) | (rw [k1]; rfl))
theorem KS.below {w W : World} {a3 a4 b3 b4 : Value} (h : KS w a3 a4 b3 b4 W) : Below w.heap.size w W := h.2.2.2.2.1

/-- Two elements at hand. -/
def KL (w : World) (a3 a4 b3 b4 : Value) (b O : Nat) (d0 d1 d2 d3 d4 : Value) (b' O' : Nat) (f0 f1 f2 f3 f4 : Value) (W : World) : Prop :=
  Five W b O d0 d1 d2 d3 d4 ∧ Five W b' O' f0 f1 f2 f3 f4 ∧ KS w a3 a4 b3 b4 W
theorem KL.next {w W W' : World} {a3 a4 b3 b4 : Value} {b O : Nat} {d0 d1 d2 d3 d4 : Value} {b' O' : Nat} {f0 f1 f2 f3 f4 : Value} (h : KL w a3 a4 b3 b4 b O d0 d1 d2 d3 d4 b' O' f0 f1 f2 f3 f4 W) (hl : b < w.heap.size) (hl' : b' < w.heap.size) (hb : Below W.heap.size W W') : KL w a3 a4 b3 b4 b O d0 d1 d2 d3 d4 b' O' f0 f1 f2 f3 f4 W' := by
  obtain ⟨h2, h4, hK⟩ := h
  have g := Nat.lt_of_lt_of_le hl hK.below.size
  have g' := Nat.lt_of_lt_of_le hl' hK.below.size
  exact ⟨h2.below hb g, h4.below hb g', hK.next hb⟩
theorem KL.written {w W : World} {a3 a4 b3 b4 : Value} {b O : Nat} {d0 d1 d2 d3 d4 : Value} {b' O' : Nat} {f0 f1 f2 f3 f4 : Value} (h : KL w a3 a4 b3 b4 b O d0 d1 d2 d3 d4 b' O' f0 f1 f2 f3 f4 W) :
    W.cell? ⟨b, O, none⟩ = some d0 ∧ W.cell? ⟨b, O + 1, none⟩ = some d1 ∧ W.cell? ⟨b, O + 2, none⟩ = some d2 ∧ W.cell? ⟨b, O + 3, none⟩ = some d3 ∧ W.cell? ⟨b, O + 4, none⟩ = some d4 ∧
    W.cell? ⟨b', O', none⟩ = some f0 ∧ W.cell? ⟨b', O' + 1, none⟩ = some f1 ∧ W.cell? ⟨b', O' + 2, none⟩ = some f2 ∧ W.cell? ⟨b', O' + 3, none⟩ = some f3 ∧ W.cell? ⟨b', O' + 4, none⟩ = some f4 ∧
    W.cell? ⟨w.heap.size, 3, none⟩ = some a3 ∧ W.cell? ⟨w.heap.size + 1, 3, none⟩ = some b3 ∧
    KL w a3 a4 b3 b4 b O d0 d1 d2 d3 d4 b' O' f0 f1 f2 f3 f4 W :=
  ⟨h.1.1, h.1.2.1, h.1.2.2.1, h.1.2.2.2.1, h.1.2.2.2.2, h.2.1.1, h.2.1.2.1, h.2.1.2.2.1, h.2.1.2.2.2.1, h.2.1.2.2.2.2, h.2.2.1, h.2.2.2.2.1, h⟩

end Go.Proofs.YtcfdfgbobnocnaaGreatDoor
namespace Go.Proofs.YtcfdfgbobnocnaaGreatDoor
open Go.RowKit

theorem rowOf_at {α : Type} {f : α → TrS} {w : World} {P : Nat → Prop} (n : Nat) (hn : ∀ a, (f a).len = n) : ∀ {l : List α} {A : Option Addr} {q : Nat} {x : α}, RowT w P (rowOf f l) A → l[q]? = some x →
    ∃ b o cs, A = some ⟨b, o, none⟩ ∧ P b ∧ (∀ j u, cs[j]? = some u → w.cell? ⟨b, o + q * n + j, none⟩ = some u) ∧ TS w P (f x) cs
  | [], _, _, _, _, h => by simp at h
  | a :: t, A, 0, x, h, hx => by
    obtain rfl : a = x := by simpa using hx
    rw [rowOf] at h
    unfold RowT at h
    obtain ⟨b, o, cs, e, hb, hc, h1, _⟩ := h
    exact ⟨b, o, cs, e, hb, fun j u hj => by rw [Nat.zero_mul, Nat.add_zero]; exact hc j u hj, h1⟩
  | a :: t, A, q + 1, x, h, hx => by
    rw [rowOf] at h
    unfold RowT at h
    obtain ⟨b, o, cs, e, hb, hc, h1, h2⟩ := h
    have hx : t[q]? = some x := by simpa using hx
    obtain ⟨b', o', cs', e', hb', hc', h1'⟩ := rowOf_at n hn h2 hx
    have e' := Option.some.inj e'
    injection e' with e1 e2 _
    subst e1 e2
    rw [hn] at hc'
    exact ⟨b, o, cs', e, hb, fun j u hj => by rw [Nat.add_mul, Nat.one_mul, Nat.add_comm (q * n) n, ← Nat.add_assoc]; exact hc' j u hj, h1'⟩
theorem RowT.below {w w' : World} {B : Nat} (hb : Below B w w') {l : TrL} {A : Option Addr} (h : RowT w (fun b => b < B) l A) : RowT w' (fun b => b < B) l A :=
  RowT.keep (fun b hlt => ⟨hlt, hb.block b hlt⟩) _ _ h
theorem mat_of {w : World} {B : Nat} {m : VM} {A : Option Addr} (h : RowT w (fun b => b < B) (encM m) A) : MAt w B m A 0 := MP.at (fun _ h => h) m A 0 (tl_mp m A 0 (by rw [Nat.zero_mul, shiftA_zero]; exact h))
theorem encD_len (d : DirT) : (encD d).len = 2 := rfl
theorem dir_at {w : World} {B : Nat} {l : List DirT} {A : Option Addr} {q : Nat} {nm : ByteArray} {m : VM} (h : RowT w (fun b => b < B) (rowOf encD l) A) (hx : l[q]? = some (nm, m)) :
    ∃ b o A2 k2, A = some ⟨b, o, none⟩ ∧ b < B ∧ w.cell? ⟨b, o + q * 2, none⟩ = some (.string nm) ∧ w.cell? ⟨b, o + q * 2 + 1, none⟩ = some (.slice A2 m.len k2) ∧ m.len ≤ 9223372036854775807 ∧ MAt w B m A2 0 := by
  obtain ⟨b, o, cs, e, hb, hc, h1⟩ := rowOf_at 2 encD_len h hx
  simp only [encD, TS, TP] at h1
  obtain ⟨c0, _, rfl, ⟨rfl, _⟩, c1, _, rfl, ⟨A2, k2, rfl, hl, hM⟩, rfl⟩ := h1
  rw [encM_len] at hc hl
  exact ⟨b, o, A2, k2, e, hb, hc 0 _ rfl, hc 1 _ rfl, hl, mat_of hM⟩
def KD (w : World) (b O : Nat) (nm d : Value) (b' O' : Nat) (nm' f : Value) (W : World) : Prop :=
  W.cell? ⟨b, O, none⟩ = some nm ∧ W.cell? ⟨b, O + 1, none⟩ = some d ∧ W.cell? ⟨b', O', none⟩ = some nm' ∧ W.cell? ⟨b', O' + 1, none⟩ = some f ∧ Below w.heap.size w W
theorem KD.next {w W W' : World} {b O : Nat} {nm d : Value} {b' O' : Nat} {nm' f : Value} (h : KD w b O nm d b' O' nm' f W) (hl : b < w.heap.size) (hl' : b' < w.heap.size) (hb : Below W.heap.size W W') : KD w b O nm d b' O' nm' f W' := by
  obtain ⟨h1, h2, h3, h4, hB⟩ := h
  have g := Nat.lt_of_lt_of_le hl hB.size
  have g' := Nat.lt_of_lt_of_le hl' hB.size
  exact ⟨(hb.cell (p := ⟨b, _, none⟩) g).trans h1, (hb.cell (p := ⟨b, _, none⟩) g).trans h2, (hb.cell (p := ⟨b', _, none⟩) g').trans h3, (hb.cell (p := ⟨b', _, none⟩) g').trans h4, hB.trans (hb.mono hB.size)⟩
theorem KD.written {w W : World} {b O : Nat} {nm d : Value} {b' O' : Nat} {nm' f : Value} (h : KD w b O nm d b' O' nm' f W) :
    W.cell? ⟨b, O, none⟩ = some nm ∧ W.cell? ⟨b, O + 1, none⟩ = some d ∧ W.cell? ⟨b', O', none⟩ = some nm' ∧ W.cell? ⟨b', O' + 1, none⟩ = some f ∧ KD w b O nm d b' O' nm' f W :=
  ⟨h.1, h.2.1, h.2.2.1, h.2.2.2.1, h⟩

end Go.Proofs.YtcfdfgbobnocnaaGreatDoor
namespace Go.Proofs.YtcfdfgbobnocnaaGreatDoor.Blk
open Go.RowKit

theorem Aside.intro {p : Prop} (h : p) : Aside p := h
theorem ret_bool {a b : Bool} (h : a = b) : Ending.returned (.bool a) = .returned (.bool b) := by rw [h]
theorem ret_int {a b : Int} (h : a = b) : Ending.returned (.int .i64 a) = .returned (.int .i64 b) := by rw [h]
theorem ret_str {a b : ByteArray} (h : a = b) : Ending.returned (.string a) = .returned (.string b) := by rw [h]
theorem below_draws {B : Nat} {a w : World} (h : Below B a w) (n : Nat) : Below B a (w.drewN n) := ⟨h.os, h.tape, h.output, h.size, h.block⟩
theorem take_both {α : Type} {xs ys : List α} {k : Nat} {x : α} (h : xs.take k = ys.take k) (ha : xs[k]? = some x) (hb : ys[k]? = some x) : xs.take (k + 1) = ys.take (k + 1) := by
  rw [List.take_add_one, List.take_add_one, h, ha, hb]
theorem grown_of {w w' : World} (h : Below w.heap.size w w') : w.grownBy w' none := ⟨h.os, h.tape, h.output, h.size, fun i hi _ => h.block i hi⟩
theorem own_none (v : Value) : v.ownBlock = none ∨ v.ownBlock ≠ none := Classical.em _
theorem own_form {w : World} {base : Nat} {e : TypeId} {v : Value} {n : Nat} {xs : List Value} (h : w.ownsRow base e 1 v n xs) : ∃ A cap, v = .slice A n cap := by
  rcases h.2 with ⟨hv, hn⟩ | ⟨g, cap, cur, hv, _⟩
  · exact ⟨none, 0, by rw [hv, hn]⟩
  · exact ⟨_, _, hv⟩

/-- A slice of strings that lies below block B and reads as xs. -/
def StrsAt (w : World) (B : Nat) (A : Option Addr) (n : Nat) (xs : List ByteArray) : Prop :=
  xs.length = n ∧ ∀ (j : Nat) x, xs[j]? = some x → ∃ b o, A = some ⟨b, o, none⟩ ∧ b < B ∧ w.cell? ⟨b, o + j, none⟩ = some (.string x)
theorem StrsAt.below {w w' : World} {B : Nat} {A : Option Addr} {n : Nat} {xs : List ByteArray} (h : StrsAt w B A n xs) (hb : Below B w w') : StrsAt w' B A n xs :=
  ⟨h.1, fun j z hz => by
    obtain ⟨b, o, e, hlt, hc⟩ := h.2 j z hz
    exact ⟨b, o, e, hlt, (hb.cell (p := ⟨b, o + j, none⟩) hlt).trans hc⟩⟩
theorem StrsAt.more {w : World} {B B' : Nat} {A : Option Addr} {n : Nat} {xs : List ByteArray} (h : StrsAt w B A n xs) (hB : B ≤ B') : StrsAt w B' A n xs :=
  ⟨h.1, fun j z hz => by
    obtain ⟨b, o, e, hlt, hc⟩ := h.2 j z hz
    exact ⟨b, o, e, by omega, hc⟩⟩
theorem StrsAt.on {w w' : World} {A : Option Addr} {n : Nat} {xs : List ByteArray} (h : StrsAt w w.heap.size A n xs) (hb : Below w.heap.size w w') : StrsAt w' w'.heap.size A n xs := (h.below hb).more hb.size
theorem StrsAt.init {w : World} {B n : Nat} {A : Option Addr} {xs : List ByteArray} {y : ByteArray} (h : StrsAt w B A (n + 1) (xs ++ [y])) : StrsAt w B A n xs := by
  have hl : xs.length = n := by have := h.1; rw [List.length_append] at this; simpa using this
  refine ⟨hl, fun j z hz => h.2 j z ?_⟩
  rw [List.getElem?_append_left (List.getElem?_eq_some_iff.1 hz).1]
  exact hz
theorem strs_of_own {w : World} {base n : Nat} {A : Option Addr} {cap : Nat} {xs : List ByteArray} (h : w.ownsRow base 9 1 (.slice A n cap) xs.length (xs.map Value.string)) : n = xs.length ∧ StrsAt w w.heap.size A xs.length xs := by
  rcases h.2 with ⟨hv, hn⟩ | ⟨g, c, cur, hv, hbase, hh, hnc, hm, hcs, htk⟩
  · injection hv with h1 h2 h3
    have hus : xs = [] := List.eq_nil_of_length_eq_zero hn
    subst hus
    exact ⟨by simpa using h2, ⟨rfl, fun j z hz => by simp at hz⟩⟩
  · have hv' := hv
    injection hv' with h1 h2 h3
    subst h1
    refine ⟨h2, rfl, fun j z hz => ⟨g, 0, rfl, ?_, ?_⟩⟩
    · exact (h.lt g rfl).2
    · subst h2 h3
      rw [Nat.zero_add, World.ownsRow.cellAt h j (by have := (List.getElem?_eq_some_iff.1 hz).1; omega), List.getElem?_map, hz]
      rfl
theorem strs_own_cap {w : World} {base n m : Nat} {A : Option Addr} {cap : Nat} {xs : List ByteArray} (h : w.ownsRow base 9 1 (.slice A m cap) n (xs.map Value.string)) (hn : 0 < n) : ∃ g, A = some ⟨g, 0, none⟩ ∧ m = n ∧ n ≤ cap ∧ StrsAt w w.heap.size A n xs := by
  have hl : xs.length = n := by have := h.1; rw [List.length_map] at this; omega
  subst hl
  rcases h.2 with ⟨_, h0⟩ | ⟨g, c, cur, hv, _, _, hnc, _⟩
  · omega
  · have hi := strs_of_own h
    injection hv with h1 h2 h3
    exact ⟨g, h1, h2, by omega, hi.2⟩
end Go.Proofs.YtcfdfgbobnocnaaGreatDoor.Blk
