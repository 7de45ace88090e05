/- seineref6.SameDirs over equal directives. -/
import Derived.Test.YtpkmbhnikilihaaGreatDoorQj4
import Derived.Laws.Rows
import Derived.Laws.Entries
namespace Go.Proofs.YtpkmbhnikilihaaGreatDoor
open Go.RowKit

theorem rowOf_at {α : Type} {f : α → TrS} {w : World} {P : Nat → Prop} (n : Nat) (hn : ∀ a, (f a).len = n) : ∀ {l : List α} {A : Option Addr} {q : Nat} {x : α}, RowT w P (rowOf f l) A → l[q]? = some x →
    ∃ b o cs, A = some ⟨b, o, none⟩ ∧ P b ∧ (∀ j u, cs[j]? = some u → w.cell? ⟨b, o + q * n + j, none⟩ = some u) ∧ TS w P (f x) cs
  | [], _, _, _, _, h => by simp at h
  | a :: t, A, 0, x, h, hx => by
    obtain rfl : a = x := by simpa using hx
    rw [rowOf] at h
    unfold RowT at h
    obtain ⟨b, o, cs, e, hb, hc, h1, _⟩ := h
    exact ⟨b, o, cs, e, hb, fun j u hj => by rw [Nat.zero_mul, Nat.add_zero]; exact hc j u hj, h1⟩
  | a :: t, A, q + 1, x, h, hx => by
    rw [rowOf] at h
    unfold RowT at h
    obtain ⟨b, o, cs, e, hb, hc, h1, h2⟩ := h
    have hx : t[q]? = some x := by simpa using hx
    obtain ⟨b', o', cs', e', hb', hc', h1'⟩ := rowOf_at n hn h2 hx
    have e' := Option.some.inj e'
    injection e' with e1 e2 _
    subst e1 e2
    rw [hn] at hc'
    exact ⟨b, o, cs', e, hb, fun j u hj => by rw [Nat.add_mul, Nat.one_mul, Nat.add_comm (q * n) n, ← Nat.add_assoc]; exact hc' j u hj, h1'⟩
theorem RowT.below {w w' : World} {B : Nat} (hb : Below B w w') {l : TrL} {A : Option Addr} (h : RowT w (fun b => b < B) l A) : RowT w' (fun b => b < B) l A :=
  RowT.keep (fun b hlt => ⟨hlt, hb.block b hlt⟩) _ _ h
theorem mat_of {w : World} {B : Nat} {m : VM} {A : Option Addr} (h : RowT w (fun b => b < B) (encM m) A) : MAt w B m A 0 := MP.at (fun _ h => h) m A 0 (tl_mp m A 0 (by rw [Nat.zero_mul, shiftA_zero]; exact h))
theorem encD_len (d : DirT) : (encD d).len = 2 := rfl
theorem dir_at {w : World} {B : Nat} {l : List DirT} {A : Option Addr} {q : Nat} {nm : ByteArray} {m : VM} (h : RowT w (fun b => b < B) (rowOf encD l) A) (hx : l[q]? = some (nm, m)) :
    ∃ b o A2 k2, A = some ⟨b, o, none⟩ ∧ b < B ∧ w.cell? ⟨b, o + q * 2, none⟩ = some (.string nm) ∧ w.cell? ⟨b, o + q * 2 + 1, none⟩ = some (.slice A2 m.len k2) ∧ m.len ≤ 9223372036854775807 ∧ MAt w B m A2 0 := by
  obtain ⟨b, o, cs, e, hb, hc, h1⟩ := rowOf_at 2 encD_len h hx
  simp only [encD, TS, TP] at h1
  obtain ⟨c0, _, rfl, ⟨rfl, _⟩, c1, _, rfl, ⟨A2, k2, rfl, hl, hM⟩, rfl⟩ := h1
  rw [encM_len] at hc hl
  exact ⟨b, o, A2, k2, e, hb, hc 0 _ rfl, hc 1 _ rfl, hl, mat_of hM⟩
theorem memb_yes (m : VM) (A A' : Option Addr) (c c' : Nat) (w : World) (B : Nat) (hB : B ≤ w.heap.size) (hl : m.len ≤ 9223372036854775807) (h1 : MAt w B m A 0) (h2 : MAt w B m A' 0) :
    Calls Tryz.prog 55 #[.slice A m.len c, .slice A' m.len c'] w fun e w' => e = .returned (.bool true) ∧ Below w.heap.size w w' := by
  refine (vmemb_any m m A A' c c' w B hB hl hl h1 h2).mono ?_
  rintro e' w' ⟨⟨b, rfl, hb⟩, hw⟩
  rw [hb.2 rfl]
  exact ⟨rfl, hw⟩
def KD (w : World) (b O : Nat) (nm d : Value) (b' O' : Nat) (nm' f : Value) (W : World) : Prop :=
  W.cell? ⟨b, O, none⟩ = some nm ∧ W.cell? ⟨b, O + 1, none⟩ = some d ∧ W.cell? ⟨b', O', none⟩ = some nm' ∧ W.cell? ⟨b', O' + 1, none⟩ = some f ∧ Below w.heap.size w W
theorem KD.next {w W W' : World} {b O : Nat} {nm d : Value} {b' O' : Nat} {nm' f : Value} (h : KD w b O nm d b' O' nm' f W) (hl : b < w.heap.size) (hl' : b' < w.heap.size) (hb : Below W.heap.size W W') : KD w b O nm d b' O' nm' f W' := by
  obtain ⟨h1, h2, h3, h4, hB⟩ := h
  have g := Nat.lt_of_lt_of_le hl hB.size
  have g' := Nat.lt_of_lt_of_le hl' hB.size
  exact ⟨(hb.cell (p := ⟨b, _, none⟩) g).trans h1, (hb.cell (p := ⟨b, _, none⟩) g).trans h2, (hb.cell (p := ⟨b', _, none⟩) g').trans h3, (hb.cell (p := ⟨b', _, none⟩) g').trans h4, hB.trans (hb.mono hB.size)⟩
theorem KD.written {w W : World} {b O : Nat} {nm d : Value} {b' O' : Nat} {nm' f : Value} (h : KD w b O nm d b' O' nm' f W) :
    W.cell? ⟨b, O, none⟩ = some nm ∧ W.cell? ⟨b, O + 1, none⟩ = some d ∧ W.cell? ⟨b', O', none⟩ = some nm' ∧ W.cell? ⟨b', O' + 1, none⟩ = some f ∧ KD w b O nm d b' O' nm' f W :=
  ⟨h.1, h.2.1, h.2.2.1, h.2.2.2.1, h⟩

set_option maxRecDepth 100000 in
set_option maxHeartbeats 4000000 in
theorem dirs_yes (l : List DirT) (A A' : Option Addr) (c c' : Nat) (w : World) (B : Nat) (hB : B ≤ w.heap.size) (hl : l.length ≤ 9223372036854775807) (h1 : RowT w (fun b => b < B) (rowOf encD l) A) (h2 : RowT w (fun b => b < B) (rowOf encD l) A') :
    Calls Tryz.prog 112 #[.slice A l.length c, .slice A' l.length c'] w fun e w' => e = .returned (.bool true) ∧ Below w.heap.size w w' := by
  have H1 := Lib.hid h1
  have H2 := Lib.hid h2
  have HB0 := Lib.hid hB
  clear h1 h2 hB
  have e0 : ((l.length : Int) != (l.length : Int)) = false := by simp
  go_enter Tryz.func112, Tryz.ntmps112
  go_wp2_with fail
  go_loopg [5] l.length (fun g i wx => ∃ q : Nat, q + g = l.length ∧ i = .int .i64 q ∧ Below w.heap.size w wx)
  case atStart => exact ⟨0, by omega, rfl, Below.refl _ _⟩
  case round =>
    obtain ⟨q, hq, rfl, hb⟩ := hrel
    have HBB := Lib.hid hb
    clear hb
    cases gk with
    | zero =>
      obtain rfl : q = l.length := by omega
      go_wp2_with fail
      go_ret
      exact ⟨rfl, HBB.out⟩
    | succ g =>
      have hqn : q < l.length := by omega
      have hqn' : (q : Int) < (l.length : Int) := by omega
      obtain ⟨⟨nm, m⟩, hv⟩ : ∃ x, l[q]? = some x := ⟨_, List.getElem?_eq_getElem hqn⟩
      obtain ⟨b, o, A2, k2, rfl, hblt, hnm, hcs, hml, hM⟩ := dir_at (RowT.below (HBB.out.mono HB0.out) H1.out) hv
      obtain ⟨b', o', A3, k3, rfl, hblt', hnm', hcs', _, hM'⟩ := dir_at (RowT.below (HBB.out.mono HB0.out) H2.out) hv
      clear hv
      have e1 : (nm.toList != nm.toList) = false := by simp
      have e1' : (nm.toList == nm.toList) = true := by simp
      have HBW : Hid (b < w.heap.size) := Lib.hid (Nat.lt_of_lt_of_le hblt HB0.out)
      have HBW' : Hid (b' < w.heap.size) := Lib.hid (Nat.lt_of_lt_of_le hblt' HB0.out)
      have hE0 : KD w b (o + q * 2) (.string nm) (.slice A2 m.len k2) b' (o' + q * 2) (.string nm) (.slice A3 m.len k3) wr := ⟨hnm, hcs, hnm', hcs', HBB.out⟩
      have C := fun (wx : World) (hx : Below wr.heap.size wr wx) => Lib.hid (memb_yes m A2 A3 k2 k3 wx B (Nat.le_trans HB0.out (Nat.le_trans HBB.out.size hx.size)) hml (MAt.below (hx.mono (Nat.le_trans HB0.out HBB.out.size)) _ _ _ hM) (MAt.below (hx.mono (Nat.le_trans HB0.out HBB.out.size)) _ _ _ hM'))
      clear hM hM' hblt hblt'
      go_wp2_with fail
      go_region_held3 (fun w' => w'.cell? ⟨b, o + q * 2, none⟩ = some (.string nm) ∧ w'.cell? ⟨b, o + q * 2 + 1, none⟩ = some (.slice A2 m.len k2) ∧ w'.cell? ⟨b', o' + q * 2, none⟩ = some (.string nm) ∧ w'.cell? ⟨b', o' + q * 2 + 1, none⟩ = some (.slice A3 m.len k3) ∧ KD w b (o + q * 2) (.string nm) (.slice A2 m.len k2) b' (o' + q * 2) (.string nm) (.slice A3 m.len k3) w')
        (first
          | exact KD.written (KD.next hE0 HBW.out HBW'.out (Below.drew (Below.refl _ _)))
          | exact KD.written ((KD.next hE0 HBW.out HBW'.out (Below.drew (Below.refl _ _))).next HBW.out HBW'.out (by assumption))
          | exact KD.written (KD.next hE0 HBW.out HBW'.out (by assumption))
          | exact KD.written (KD.next (by assumption) HBW.out HBW'.out (by assumption))
          | go_keep)
        ((first | (go_at_call 55; refine (C _ (by first | exact Below.drew (Below.refl _ _) | exact Below.refl _ _ | assumption)).out.mono ?_; rintro e w' ⟨rfl, hb⟩)))
      all_goals
        have HKM : KD w b (o + q * 2) (.string nm) (.slice A2 m.len k2) b' (o' + q * 2) (.string nm) (.slice A3 m.len k3) w' := And.right (And.right (And.right (And.right (by assumption))))
        have HKB := Lib.hid HKM.2.2.2.2
        clear HKM hE0 C hnm hcs hnm' hcs'
        go_wp2_with fail
        go_roundg g
        case measure => omega
        case rel => exact ⟨q + 1, by omega, by go_num, HKB.out⟩
end Go.Proofs.YtpkmbhnikilihaaGreatDoor
/- The walks of seineref1.Get, Int and Text. -/
namespace Go.Proofs.YtpkmbhnikilihaaGreatDoor
open Go.RowKit

/-- The value that is none. -/
def VT.zero : VT := .mk 0 0 ⟨#[]⟩ .nil .nil
def VM.drop : VM → Nat → VM
  | m, 0 => m
  | .nil, _ + 1 => .nil
  | .cons _ _ t, j + 1 => t.drop j
/-- The end of a function that answers a value out of a cell, and one that answers a Boolean beside it. -/
theorem ret_v1 {R : Ending → World → Prop} {fn : Func} {a : Act} {W : World} {c0 c1 c2 c3 c4 : Value} {p b : Nat} (hf : fn.results = #[.cell p 35]) (h2 : a.tmps.getD p undef = .pointer (some ⟨b, 0, none⟩)) (hd : a.defers = [])
    (hc : W.heap[b]? = some (.cells #[c0, c1, c2, c3, c4] 35 (0, 0))) (hR : R (.returned (.agg #[c0, c1, c2, c3, c4])) W) : bodyPost Tryz.prog fn R .ret a W := by
  have hl : (loadVar 35 ⟨b, 0, none⟩).run Tryz.prog W = .ok (.agg #[c0, c1, c2, c3, c4]) W :=
    run_loadVar_row W b 35 35 #[c0, c1, c2, c3, c4] (0, 0) _ hc Tryz.underlying35 rfl (by kernel_rfl)
  refine bodyPost_ret ?_ hd hR
  have h2' : a.tmps[p]?.getD undef = .pointer (some ⟨b, 0, none⟩) := by rw [← h2]; simp
  simp [results, hf, h2', asAddr, hl]
end Go.Proofs.YtpkmbhnikilihaaGreatDoor
/- The walks of value.Get, Int and Text. -/
namespace Go.Proofs.YtpkmbhnikilihaaGreatDoor
open Go.RowKit

theorem pint_any (z : Int) (w : World) :
    Calls Tryz.prog 190 #[.int .i64 z] w fun e w' => e = .returned (.agg #[.int .i64 2, .int .i64 z, .string ⟨#[]⟩, .slice none 0 0, .slice none 0 0]) ∧ Below w.heap.size w w' := by
  go_enter Tryz.func190, Tryz.ntmps190
  go_wp2_with fail
  exact ret_v1 rfl rfl rfl (heap_alloc_new _ _) ⟨rfl, (Below.refl _ _).alloc (Nat.le_refl _) _⟩
theorem ptext_any (s : ByteArray) (w : World) :
    Calls Tryz.prog 191 #[.string s] w fun e w' => e = .returned (.agg #[.int .i64 4, .int .i64 0, .string s, .slice none 0 0, .slice none 0 0]) ∧ Below w.heap.size w w' := by
  go_enter Tryz.func191, Tryz.ntmps191
  go_wp2_with fail
  exact ret_v1 rfl rfl rfl (heap_alloc_new _ _) ⟨rfl, (Below.refl _ _).alloc (Nat.le_refl _) _⟩
theorem five_set {w : World} {b : Nat} {z0 z1 z2 z3 z4 v0 v1 v2 v3 v4 : Value} {t : TypeId} (h : w.heap[b]? = some (.cells #[z0, z1, z2, z3, z4] t (0, 0))) : (((((w.setCell ⟨b, 0, none⟩ v0).setCell ⟨b, 1, none⟩ v1).setCell ⟨b, 2, none⟩ v2).setCell ⟨b, 3, none⟩ v3).setCell ⟨b, 4, none⟩ v4).heap[b]? = some (.cells #[v0, v1, v2, v3, v4] t (0, 0)) :=
  heap_setCell_same _ b 4 _ _ _ (heap_setCell_same _ b 3 _ _ _ (heap_setCell_same _ b 2 _ _ _ (heap_setCell_same _ b 1 _ _ _ (heap_setCell_same _ b 0 _ _ _ h))))
theorem gfive_cells {w : World} {b : Nat} {z0 z1 z2 z3 z4 : Value} {t : TypeId} (h : w.heap[b]? = some (.cells #[z0, z1, z2, z3, z4] t (0, 0))) : w.cell? ⟨b, 0, none⟩ = some z0 ∧ w.cell? ⟨b, 1, none⟩ = some z1 ∧ w.cell? ⟨b, 2, none⟩ = some z2 ∧ w.cell? ⟨b, 3, none⟩ = some z3 ∧ w.cell? ⟨b, 4, none⟩ = some z4 ∧ ∀ i, w.frozen? ⟨b, i, none⟩ = false := by
  refine ⟨?_, ?_, ?_, ?_, ?_, fun i => ?_⟩
  all_goals first | (simp only [World.cell?, h]; rfl) | simp [World.frozen?, h]
def ResAt (w wx : World) : Prop := wx.heap[w.heap.size]? = some (.cells #[.int .i64 0, .int .i64 0, .string ⟨#[]⟩, .slice none 0 0, .slice none 0 0] 35 (0, 0)) ∧ w.heap.size < wx.heap.size ∧ Below w.heap.size w wx
theorem ResAt.alloc {w wx : World} (h : ResAt w wx) (o : Obj) : ResAt w (wx.alloc o) :=
  ⟨(Below.heap_alloc _ _ _ h.2.1).trans h.1, by have := h.2.1; simp; omega, h.2.2.alloc (Nat.le_of_lt h.2.1) o⟩
end Go.Proofs.YtpkmbhnikilihaaGreatDoor
/- Plain facts on UTF-8, of no program: which code point is encoded at the head of a list of bytes, and the arithmetic of the shapes' bits. -/
namespace Go.Proofs.YtpkmbhnikilihaaGreatDoor

/-- Byte k of a list, as a number; 0 behind its end. -/
def byt (l : List UInt8) (k : Nat) : Int := ((l.getD k 0).toNat : Int)
def contB (b : Int) : Bool := decide (128 ≤ b ∧ b ≤ 191)
/-- The first byte's bits that are fixed, the bits by which they are told, the least code point, and how many first bytes there are, of the shape of k + 1 bytes. -/
def lead : Nat → Int | 0 => 0 | 1 => 192 | 2 => 224 | _ => 240
def mask : Nat → Int | 0 => 128 | 1 => 224 | 2 => 240 | _ => 248
def least : Nat → Int | 0 => 0 | 1 => 128 | 2 => 2048 | _ => 65536
def wide : Nat → Int | 0 => 128 | 1 => 32 | 2 => 16 | _ => 8
/-- The number that the first byte's rest and the bytes 1 to k - 1 are together. -/
def acc (l : List UInt8) (c : Int) : Nat → Int
  | 0 => c
  | 1 => c
  | k + 2 => acc l c (k + 1) * 64 + (byt l (k + 1) - 128)
/-- Are the bytes 1 to k - 1 ones that go on? -/
def contTo (l : List UInt8) : Nat → Bool
  | 0 => true
  | 1 => true
  | k + 2 => contTo l (k + 1) && contB (byt l (k + 1))
def leads (k : Nat) (a : Int) : Prop := lead k ≤ a ∧ a < lead k + wide k
instance (k : Nat) (a : Int) : Decidable (leads k a) := by unfold leads; infer_instance
def fair (k : Nat) (c : Int) : Prop := least k ≤ c ∧ c ≤ 1114111 ∧ halfB c = false
instance (k : Nat) (c : Int) : Decidable (fair k c) := by unfold fair; infer_instance
/-- The code point of k + 1 bytes at the head, if one is there. -/
def decK (k : Nat) (l : List UInt8) : Option (Int × Int) :=
  if k < l.length ∧ leads k (byt l 0) ∧ contTo l (k + 1) = true ∧ fair k (acc l (byt l 0 - lead k) (k + 1)) then some (acc l (byt l 0 - lead k) (k + 1), (k : Int) + 1) else none
/-- The code point at the head, and its number of bytes; 0 and 0 if there is none. -/
def dec (l : List UInt8) : Int × Int :=
  match decK 0 l with
  | some p => p
  | none => match decK 1 l with
    | some p => p
    | none => match decK 2 l with
      | some p => p
      | none => match decK 3 l with
        | some p => p
        | none => (0, 0)
/-- The shapes of fewer bytes than k + 1 have no code point. -/
def noneTo (l : List UInt8) (k : Nat) : Prop := ∀ j, j < k → decK j l = none
theorem noneTo_succ {l : List UInt8} {k : Nat} (h : noneTo l k) (hk : decK k l = none) : noneTo l (k + 1) := fun j hj => by
  rcases Nat.lt_or_ge j k with h' | h'
  · exact h j h'
  · obtain rfl : j = k := by omega
    exact hk
theorem dec_none {l : List UInt8} (h : noneTo l 4) : dec l = (0, 0) := by
  simp [dec, h 0 (by omega), h 1 (by omega), h 2 (by omega), h 3 (by omega)]
theorem dec_some {l : List UInt8} {k : Nat} {p : Int × Int} (hk : k < 4) (h : noneTo l k) (hp : decK k l = some p) : dec l = p := by
  match k, hk with
  | 0, _ => simp [dec, hp]
  | 1, _ => simp [dec, h 0 (by omega), hp]
  | 2, _ => simp [dec, h 0 (by omega), h 1 (by omega), hp]
  | 3, _ => simp [dec, h 0 (by omega), h 1 (by omega), h 2 (by omega), hp]

theorem byt_lt (l : List UInt8) (k : Nat) : 0 ≤ byt l k ∧ byt l k < 256 := by
  have := (l.getD k 0).toNat_lt
  unfold byt; omega
theorem byt_drop (s : ByteArray) (i k : Nat) (h : i + k < s.size) : (s[i + k].toNat : Int) = byt (s.data.toList.drop i) k := by
  unfold byt
  have hl : s.data.toList.length = s.size := Array.length_toList
  rw [List.getD_eq_getElem?_getD, List.getElem?_drop, List.getElem?_eq_getElem (by omega)]
  rfl
theorem acc_bd (l : List UInt8) (c : Int) (h0 : 0 ≤ c) (h1 : c < 128) : ∀ k, contTo l k = true → 0 ≤ acc l c k ∧ acc l c k < 128 * 64 ^ (k - 1) := by
  intro k
  induction k with
  | zero => intro _; exact ⟨h0, by simpa [acc] using h1⟩
  | succ k ih =>
    cases k with
    | zero => intro _; exact ⟨h0, by simpa [acc] using h1⟩
    | succ k =>
      intro h
      simp only [contTo, Bool.and_eq_true] at h
      obtain ⟨a, b⟩ := ih h.1
      have hc := h.2
      simp only [contB, decide_eq_true_eq] at hc
      simp only [acc]
      refine ⟨by omega, ?_⟩
      rw [show k + 1 + 1 - 1 = (k + 1 - 1) + 1 from by omega, Int.pow_succ]
      omega

theorem decK_leads {l : List UInt8} {k : Nat} (h : ¬ leads k (byt l 0)) : decK k l = none := by
  unfold decK; rw [if_neg (fun x => h x.2.1)]
theorem decK_short {l : List UInt8} {k : Nat} (h : ¬ k < l.length) : decK k l = none := by
  unfold decK; rw [if_neg (fun x => h x.1)]
theorem decK_fair {l : List UInt8} {k : Nat} (h : ¬ fair k (acc l (byt l 0 - lead k) (k + 1))) : decK k l = none := by
  unfold decK; rw [if_neg (fun x => h x.2.2.2)]
theorem contTo_mono {l : List UInt8} : ∀ (k j : Nat), j ≤ k → contTo l k = true → contTo l j = true := by
  intro k
  induction k with
  | zero => intro j hj h; obtain rfl : j = 0 := by omega
            exact h
  | succ k ih =>
    intro j hj h
    rcases Nat.lt_or_ge j (k + 1) with h' | h'
    · refine ih j (by omega) ?_
      cases k with
      | zero => rfl
      | succ k => simp only [contTo, Bool.and_eq_true] at h; exact h.1
    · obtain rfl : j = k + 1 := by omega
      exact h
theorem decK_cont {l : List UInt8} {k j : Nat} (h0 : 1 ≤ j) (hj : j ≤ k) (h : ¬ contB (byt l j) = true) : decK k l = none := by
  unfold decK; rw [if_neg (fun x => h ?_)]
  have := contTo_mono (k + 1) (j + 1) (by omega) x.2.2.1
  match j, h0 with
  | j + 1, _ => simp only [contTo, Bool.and_eq_true] at this; exact this.2
theorem decK_yes {l : List UInt8} {k : Nat} (h1 : k < l.length) (h2 : leads k (byt l 0)) (h3 : contTo l (k + 1) = true) (h4 : fair k (acc l (byt l 0 - lead k) (k + 1))) :
    decK k l = some (acc l (byt l 0 - lead k) (k + 1), (k : Int) + 1) := by unfold decK; rw [if_pos ⟨h1, h2, h3, h4⟩]
theorem leads_bd {k : Nat} {a : Int} (h : leads k a) : 0 ≤ a - lead k ∧ a - lead k < 128 := by
  unfold leads at h
  match k, h with
  | 0, h => simp only [lead, wide] at *; omega
  | 1, h => simp only [lead, wide] at *; omega
  | 2, h => simp only [lead, wide] at *; omega
  | k + 3, h => simp only [lead, wide] at *; omega
theorem contTo_succ {l : List UInt8} {j : Nat} (h0 : 1 ≤ j) (h : contTo l j = true) (hc : contB (byt l j) = true) : contTo l (j + 1) = true := by
  match j, h0 with
  | j + 1, _ => simp [contTo, h, hc]
theorem acc_succ {l : List UInt8} {c : Int} {j : Nat} (h0 : 1 ≤ j) : acc l c (j + 1) = acc l c j * 64 + (byt l j - 128) := by
  match j, h0 with
  | j + 1, _ => rfl
theorem acc_small {l : List UInt8} {c : Int} {j : Nat} (h0 : 0 ≤ c) (h1 : c < 128) (hj : j ≤ 4) (h : contTo l j = true) : 0 ≤ acc l c j ∧ acc l c j < 33554433 := by
  have hx : ∀ (k : Nat), k ≤ 3 → (128 : Int) * 64 ^ k ≤ 33554432 := by
    intro k hk
    match k, hk with
    | 0, _ => decide
    | 1, _ => decide
    | 2, _ => decide
    | 3, _ => decide
  have hb : 0 ≤ acc l c j ∧ acc l c j < 128 * 64 ^ (j - 1) := acc_bd l c h0 h1 j h
  have := hx (j - 1) (by omega)
  omega

/- THE BITS -/
theorem and_mask_all : ∀ k : Fin 4, ∀ a : Fin 256, (bits .and .i64 ((a.val : Nat) : Int) (mask k.val) = lead k.val ↔ leads k.val ((a.val : Nat) : Int)) ∧ (leads k.val ((a.val : Nat) : Int) → bits .andNot .i64 ((a.val : Nat) : Int) (mask k.val) = ((a.val : Nat) : Int) - lead k.val) := by decide +kernel
theorem and_tail_all : ∀ a : Fin 256, (bits .and .i64 ((a.val : Nat) : Int) 192 = 128 ↔ contB ((a.val : Nat) : Int) = true) ∧ (contB ((a.val : Nat) : Int) = true → bits .and .i64 ((a.val : Nat) : Int) 63 = ((a.val : Nat) : Int) - 128) := by decide +kernel
theorem and_mask {k : Nat} (hk : k < 4) {a : Int} (h0 : 0 ≤ a) (h1 : a < 256) : (bits .and .i64 a (mask k) = lead k ↔ leads k a) ∧ (leads k a → bits .andNot .i64 a (mask k) = a - lead k) := by
  obtain ⟨n, rfl⟩ := Int.eq_ofNat_of_zero_le h0
  exact and_mask_all ⟨k, hk⟩ ⟨n, by omega⟩
theorem and_tail {a : Int} (h0 : 0 ≤ a) (h1 : a < 256) : (bits .and .i64 a 192 = 128 ↔ contB a = true) ∧ (contB a = true → bits .and .i64 a 63 = a - 128) := by
  obtain ⟨n, rfl⟩ := Int.eq_ofNat_of_zero_le h0
  exact and_tail_all ⟨n, by omega⟩
theorem ofInt_i64 (a : Nat) (ha : a < 9223372036854775808) : (BitVec.ofInt 64 (a : Int)).toNat = a := by
  rw [BitVec.ofInt_natCast, BitVec.toNat_ofNat]; exact Nat.mod_eq_of_lt (by omega)
theorem or_six {c d : Int} (h0 : 0 ≤ c) (h1 : c < 134217728) (h2 : 0 ≤ d) (h3 : d < 64) : bits .or .i64 (c * 64) d = c * 64 + d := by
  obtain ⟨a, rfl⟩ := Int.eq_ofNat_of_zero_le h0
  obtain ⟨b, rfl⟩ := Int.eq_ofNat_of_zero_le h2
  have e : ((a : Int) * 64) = ((a * 64 : Nat) : Int) := by omega
  rw [e]
  show IntKind.i64.wrap ((BitVec.ofInt 64 ((a * 64 : Nat) : Int) ||| BitVec.ofInt 64 (b : Int)).toNat : Int) = _
  have h := Nat.shiftLeft_add_eq_or_of_lt (b := b) (i := 6) (by omega) a
  rw [BitVec.toNat_or, ofInt_i64 _ (by omega), ofInt_i64 b (by omega), show a * 64 = a <<< 6 from by rw [Nat.shiftLeft_eq], ← h, IntKind.wrap_i64, Nat.shiftLeft_eq]
  omega
end Go.Proofs.YtpkmbhnikilihaaGreatDoor
/- Plain facts on texts, of no program: the list of a text's code points, and what is asked of each of them. -/
namespace Go.Proofs.YtpkmbhnikilihaaGreatDoor

theorem decK_bd {k : Nat} {l : List UInt8} {p : Int × Int} (hk : k < 4) (h : decK k l = some p) : p.2 = (k : Int) + 1 ∧ k + 1 ≤ l.length ∧ 0 ≤ p.1 ∧ fair k p.1 := by
  unfold decK at h
  split at h
  · rename_i hc
    obtain ⟨h1, h2, h3, h4⟩ := hc
    injection h with h
    subst h
    have hls := leads_bd h2
    exact ⟨rfl, by omega, (acc_small hls.1 hls.2 (by omega) h3).1, h4⟩
  · cases h
/-- What stands at the head: no code point, or the one of some shape. -/
theorem dec_cases (l : List UInt8) : (noneTo l 4 ∧ dec l = (0, 0)) ∨ ∃ k, k < 4 ∧ noneTo l k ∧ decK k l = some (dec l) := by
  cases h0 : decK 0 l with
  | some p => exact .inr ⟨0, by omega, fun j hj => by omega, by rw [dec_some (k := 0) (by omega) (fun j hj => by omega) h0, h0]⟩
  | none =>
    have n1 : noneTo l 1 := fun j hj => by obtain rfl : j = 0 := by omega
                                           exact h0
    cases h1 : decK 1 l with
    | some p => exact .inr ⟨1, by omega, n1, by rw [dec_some (k := 1) (by omega) n1 h1, h1]⟩
    | none =>
      have n2 := noneTo_succ n1 h1
      cases h2 : decK 2 l with
      | some p => exact .inr ⟨2, by omega, n2, by rw [dec_some (k := 2) (by omega) n2 h2, h2]⟩
      | none =>
        have n3 := noneTo_succ n2 h2
        cases h3 : decK 3 l with
        | some p => exact .inr ⟨3, by omega, n3, by rw [dec_some (k := 3) (by omega) n3 h3, h3]⟩
        | none => exact .inl ⟨noneTo_succ n3 h3, dec_none (noneTo_succ n3 h3)⟩
theorem dec_bd (l : List UInt8) : 0 ≤ (dec l).2 ∧ (dec l).2 ≤ 4 ∧ (dec l).2 ≤ l.length ∧ 0 ≤ (dec l).1 ∧ (dec l).1 ≤ 1114111 ∧ halfB (dec l).1 = false := by
  rcases dec_cases l with ⟨_, h⟩ | ⟨k, hk, _, h⟩
  · rw [h]; simp [halfB]
  · obtain ⟨h1, h2, h3, h4⟩ := decK_bd hk h
    unfold fair at h4
    exact ⟨by omega, by omega, by omega, h3, h4.2.1, h4.2.2⟩

/-- The code points of a text; none, if something else stands in it. (n: at least as many as there are bytes.) -/
def codesF : Nat → List UInt8 → Option (List Int)
  | _, [] => some []
  | 0, _ :: _ => none
  | n + 1, b :: t => if (dec (b :: t)).2 = 0 then none else (codesF n ((b :: t).drop (dec (b :: t)).2.toNat)).map ((dec (b :: t)).1 :: ·)
def codes (l : List UInt8) : Option (List Int) := codesF l.length l
theorem codesF_enough : ∀ (n m : Nat) (l : List UInt8), l.length ≤ n → l.length ≤ m → codesF n l = codesF m l := by
  intro n
  induction n with
  | zero =>
    intro m l h _
    have : l = [] := List.eq_nil_of_length_eq_zero (by omega)
    subst this
    cases m <;> rfl
  | succ n ih =>
    intro m l hn hm
    cases l with
    | nil => cases m <;> rfl
    | cons b t =>
      cases m with
      | zero => simp at hm
      | succ m =>
        have hb := dec_bd (b :: t)
        simp only [codesF]
        split
        · rfl
        · rename_i h0
          rw [ih m _ (by simp only [List.length_drop, List.length_cons] at *; omega) (by simp only [List.length_drop, List.length_cons] at *; omega)]
theorem codes_nil : codes [] = some [] := rfl
theorem codes_bad {l : List UInt8} (h : l ≠ []) (h0 : (dec l).2 = 0) : codes l = none := by
  cases l with
  | nil => exact absurd rfl h
  | cons b t => simp only [codes, List.length_cons, codesF, if_pos h0]
theorem codes_step {l : List UInt8} (h : l ≠ []) (h0 : (dec l).2 ≠ 0) : codes l = (codes (l.drop (dec l).2.toNat)).map ((dec l).1 :: ·) := by
  cases l with
  | nil => exact absurd rfl h
  | cons b t =>
    have hb := dec_bd (b :: t)
    show codesF (t.length + 1) (b :: t) = _
    simp only [codesF, if_neg h0]
    rw [codesF_enough t.length ((b :: t).drop (dec (b :: t)).2.toNat).length _ (by simp only [List.length_drop, List.length_cons] at *; omega) (Nat.le_refl _)]
    rfl
/-- Are they all code points, and does each one fit? -/
def eachP (p : Int → Bool) (l : List UInt8) : Bool :=
  match codes l with
  | some cs => cs.all p
  | none => false
theorem eachP_bad {p : Int → Bool} {l : List UInt8} (h : l ≠ []) (h0 : (dec l).2 = 0) : eachP p l = false := by simp [eachP, codes_bad h h0]
theorem eachP_step {p : Int → Bool} {l : List UInt8} (h : l ≠ []) (h0 : (dec l).2 ≠ 0) : eachP p l = (p (dec l).1 && eachP p (l.drop (dec l).2.toNat)) := by
  unfold eachP
  rw [codes_step h h0]
  cases codes (l.drop (dec l).2.toNat) with
  | none => simp
  | some cs => simp
def srcB (c : Int) : Bool := decide (c = 9 ∨ c = 10 ∨ c = 13 ∨ (32 ≤ c ∧ c < 65536))
def goodB (l : List UInt8) : Bool := eachP (fun _ => true) l
def sourceB (l : List UInt8) : Bool := eachP srcB l
theorem goodB_iff (l : List UInt8) : goodB l = (codes l).isSome := by
  unfold goodB eachP
  cases codes l <;> simp
end Go.Proofs.YtpkmbhnikilihaaGreatDoor
