/- defs.Possible. -/
import Derived.Test.YtmamgaifpjgfkaaDfDel
namespace Go.Proofs.Ytmamgaifpjgfkaa
open Go.RowKit

/-- No row is longer than memory may hold. -/
def SlimF (f : FieldT) : Prop := f.params.length * 136 ≤ 140737488355328 ∧ f.dirs.length * 40 ≤ 140737488355328 ∧ ∀ x, x ∈ f.dirs → x.2.len * 96 ≤ 140737488355328
def SlimD (d : DefnT) : Prop := d.faces.length * 16 ≤ 140737488355328 ∧ d.fields.length * 96 ≤ 140737488355328 ∧ d.parts.length * 16 ≤ 140737488355328 ∧ d.params.length * 136 ≤ 140737488355328 ∧ ∀ f, f ∈ d.fields → SlimF f
def SlimS (S : SchT) : Prop := S.defs.length * 120 ≤ 140737488355328 ∧ ∀ d, d ∈ S.defs → SlimD d
theorem slim_none (k : Int) (n : ByteArray) : SlimD ⟨k, n, [], [], [], []⟩ := ⟨by simp, by simp, by simp, by simp, fun f h => by simp at h⟩
theorem findL_mem {l : List DefnT} {n : ByteArray} : (findL l n).1 ∈ l ∨ (findL l n).1 = zeroD := by
  induction l with
  | nil => exact .inr rfl
  | cons d t ih =>
    rw [findL]
    split
    · exact .inl (List.mem_cons_self ..)
    · rcases ih with h | h
      · exact .inl (List.mem_cons_of_mem _ h)
      · exact .inr h
theorem find_slim {l : List DefnT} (h : ∀ d, d ∈ l → SlimD d) (n : ByteArray) : SlimD (findD l n).1 := by
  unfold findD
  split
  · exact slim_none _ _
  · rcases findL_mem (l := l) (n := n) with e | e
    · exact h _ e
    · rw [e]; exact slim_none _ _
/-- All names of definitions are texts. -/
theorem defs_bd {w : World} {P : Nat → Prop} : ∀ {l : List DefnT} {A : Option Addr}, RowT w P (rowOf encDefn l) A → ∀ d, d ∈ l → d.name.size ≤ 9223372036854775807 ∧ StrB d.faces ∧ StrB d.parts
  | [], _, _ => fun d h => by simp at h
  | a :: t, A, h => fun d hd => by
    rw [rowOf] at h
    unfold RowT at h
    obtain ⟨b, o, cs, _, _, _, h1, h2⟩ := h
    rcases List.mem_cons.1 hd with rfl | hd
    · obtain ⟨Af, kf, Ax, kx, Ap, kp, Am, km, _, hz, ⟨_, hf⟩, _, ⟨_, hp⟩, _⟩ := defn_cells h1
      exact ⟨hz, str_bd hf, str_bd hp⟩
    · exact defs_bd h2 d hd
theorem bearers_bd {l : List DefnT} {f : ByteArray} (h : ∀ d, d ∈ l → d.name.size ≤ 9223372036854775807) : StrB (bearersL l f) := by
  induction l with
  | nil => intro s hs; simp [bearersL] at hs
  | cons a t ih =>
    have ih := ih (fun d hd => h d (List.mem_cons_of_mem _ hd))
    intro s hs
    rw [bearersL] at hs
    split at hs
    · rcases List.mem_cons.1 hs with rfl | hs
      · exact h a (List.mem_cons_self ..)
      · exact ih s hs
    · exact ih s hs
theorem adds_mem : ∀ (l out : List ByteArray) (s : ByteArray), s ∈ l.foldl addN out → s ∈ out ∨ s ∈ l
  | [], out, s, h => .inl h
  | a :: t, out, s, h => by
    rw [List.foldl_cons] at h
    rcases adds_mem t _ s h with h1 | h1
    · unfold addN at h1
      split at h1
      · exact .inl h1
      · rcases List.mem_append.1 h1 with h2 | h2
        · exact .inl h2
        · simp at h2; subst h2; exact .inr (List.mem_cons_self ..)
    · exact .inr (List.mem_cons_of_mem _ h1)
theorem once_mem {xs : List ByteArray} {s : ByteArray} (h : s ∈ onceL xs) : s ∈ xs := by
  rcases adds_mem xs [] s h with h | h
  · simp at h
  · exact h
theorem once_bd {xs : List ByteArray} (h : StrB xs) : StrB (onceL xs) := fun s hs => h s (once_mem hs)
/-- What is possible for a name. -/
def possL (S : SchT) (n : ByteArray) : List ByteArray :=
  if (findD S.defs n).2 = true then
    (if ((findD S.defs n).1.kind == 1) = true then [n] else if ((findD S.defs n).1.kind == 2) = true then onceL (bearersL S.defs n) else if ((findD S.defs n).1.kind == 3) = true then objL S (onceL (findD S.defs n).1.parts) else [])
  else []
theorem poss_bd {S : SchT} {n : ByteArray} {w : World} {P : Nat → Prop} {cs : List Value} (hn : n.size ≤ 9223372036854775807) (hS : TS w P (encSch S) cs) : StrB (possL S n) := by
  obtain ⟨A, k, _, _, hR⟩ := sch_cells hS
  have hd := defs_bd hR
  have hf : StrB (findD S.defs n).1.parts := by
    unfold findD
    split
    · intro s hs; simp at hs
    · rcases findL_mem (l := S.defs) (n := n) with e | e
      · exact (hd _ e).2.2
      · rw [e]; intro s hs; simp [zeroD] at hs
  unfold possL
  split
  · split
    · intro s hs
      have : s = n := by simpa using hs
      rw [this]; exact hn
    · split
      · exact once_bd (bearers_bd (fun d h => (hd d h).1))
      · split
        · exact fun s hs => once_bd hf s (List.mem_filter.1 hs).1
        · intro s hs; simp at hs
  · intro s hs; simp at hs
theorem strs_lit {w : World} {n : ByteArray} {t : TypeId} : Blk.StrsAt (w.alloc (.cells #[.string n] t)) (w.heap.size + 1) (some ⟨w.heap.size, 0, none⟩) 1 [n] := by
  refine ⟨rfl, fun j x hx => ⟨_, _, rfl, Nat.lt_succ_self _, ?_⟩⟩
  have h0 : j = 0 := by have := (List.getElem?_eq_some_iff.1 hx).1; simp at this; exact this
  subst h0
  have : n = x := by simpa using hx
  subst this
  rw [Nat.add_zero, World.cell?_alloc_at _ _ _ _ rfl]
  rfl
theorem strs_lit2 {w : World} {n : ByteArray} {t : TypeId} {g : Nat} (hg : w.heap.size = g) : Blk.StrsAt (w.alloc (.cells #[.string n] t)) (w.alloc (.cells #[.string n] t)).heap.size (some ⟨g, 0, none⟩) 1 [n] := by subst hg; exact strs_lit.more (by simp)
set_option maxRecDepth 100000 in
set_option maxHeartbeats 4000000 in
theorem poss_any (S : SchT) (n : ByteArray) (c0 c1 c2 : Value) (w : World) (B : Nat) (hB : B ≤ w.heap.size) (hn : n.size ≤ 9223372036854775807) (hz : SlimS S) (hS : TS w (fun b => b < B) (encSch S) [c0, c1, c2]) :
    Calls Try.prog 17 #[.agg #[c0, c1, c2], .string n] w (RowR w.heap.size (possL S n) w) := by
  have F := Lib.hid (fun (wx : World) (hb : Below w.heap.size w wx) => find_any S n c0 c1 c2 wx B (Nat.le_trans hB hb.size) hn (TS.low (hb.mono hB) hS))
  have G := Lib.hid (fun (wx : World) (hb : Below w.heap.size w wx) => bearers_any S n c0 c1 c2 wx B (Nat.le_trans hB hb.size) (by have := hz.1; omega) (TS.low (hb.mono hB) hS))
  have FS := Lib.hid (find_slim hz.2 n)
  have HS0 := Lib.hid hS
  obtain ⟨A, k, e, hl, hR⟩ := sch_cells hS
  injection e with e0 e
  injection e with e1 e
  injection e with e2 e
  subst e0 e1 e2
  have HB0 := Lib.hid hB
  have HZ := Lib.hid hz
  have HDB := Lib.hid (defs_bd hR)
  have B0 := Lib.hid (dbelow_new w (.cells #[.slice A S.defs.length k, .string S.query, .string S.mutation] 24))
  have X0 := Lib.hid (heap_alloc_new w (.cells #[.slice A S.defs.length k, .string S.query, .string S.mutation] 24))
  have hmf : ∀ (fn : Fn) (first cap : Array Value) (w : World), (Instr.makeFunc fn first cap).run Try.prog w = .ok (.func fn first cap) w := fun _ _ _ _ => rfl
  clear hB hS hR e hl hz
  obtain ⟨x, hx⟩ : ∃ x, findD S.defs n = x := ⟨_, rfl⟩
  have HQ : Hid (possL S n = if x.2 = true then
    (if (x.1.kind == 1) = true then [n] else if (x.1.kind == 2) = true then onceL (bearersL S.defs n) else if (x.1.kind == 3) = true then objL S (onceL x.1.parts) else [])
  else []) := Lib.hid (by unfold possL; rw [hx])
  generalize possL S n = Q at HQ ⊢
  rw [hx] at F FS
  clear hx
  obtain ⟨d, ok⟩ := x
  go_enter Try.func17, Try.ntmps17
  go_wp2_with fail
  refine (F.out _ B0.out).mono ?_
  rintro e w1 ⟨d0, d1, d2, d3, d4, d5, rfl, hT, hb1⟩
  have HT := Lib.hid hT
  obtain ⟨Af, kf, Ax, kx, Ap, kp, Am, km, e, _, _, _, ⟨hlp, hrp⟩, _⟩ := defn_cells hT
  simp only [List.cons.injEq, and_true] at e
  obtain ⟨rfl, rfl, rfl, rfl, rfl, rfl⟩ := e
  have B1 := Lib.hid (B0.out.trans (hb1.mono B0.out.size))
  have HP := Lib.hid hrp
  have HX1 := Lib.hid ((hb1.block w.heap.size (by simp)).trans X0.out)
  have hlw := Nat.lt_of_lt_of_le (show w.heap.size < (w.alloc (.cells #[.slice A S.defs.length k, .string S.query, .string S.mutation] 24)).heap.size by simp) hb1.size
  clear hT hb1 F hrp
  cases ok with
  | false =>
    go_wp2_with fail
    go_ret
    have hQ : Q = [] := HQ.out
    subst hQ
    exact ⟨none, 0, rfl, ⟨rfl, fun j x hx => by simp at hx⟩, B1.out.alloc B1.out.size _⟩
  | true =>
    have B2 := Lib.hid (fun o => B1.out.alloc B1.out.size o)
    have D2 := fun o => Lib.hid (dbelow_new w1 o)
    have hs1 := B1.out.size
    cases k1 : (d.kind == 1) with
    | true =>
      have hQ : Q = [n] := HQ.out.trans (by simp [k1])
      subst hQ
      go_wp2_with fail
      go_ret
      exact ⟨_, 1, rfl, strs_lit2 (by simp), (B2.out _).alloc (B2.out _).size _⟩
    | false =>
      cases k2 : (d.kind == 2) with
      | true =>
        have hQ : Q = onceL (bearersL S.defs n) := HQ.out.trans (by simp [k1, k2])
        have HBD := Lib.hid (once_bd (bearers_bd (f := n) (fun d hd => (HDB.out d hd).1)))
        have HLE := Lib.hid (show (bearersL S.defs n).length * 16 ≤ 140737488355328 by have := bearers_len S.defs n; have := HZ.out.1; omega)
        have HQ2 := Lib.hid hQ
        clear hQ
        obtain ⟨z0, z1, z2⟩ := three_cells HX1.out
        go_wp2_with fail
        refine (G.out _ (B2.out _)).mono ?_
        rintro e w2 ⟨V, rfl, h2, hb2⟩
        obtain ⟨A2, k2', rfl, hs2⟩ := h2.strs
        have O2 := Lib.hid hs2
        have B3 := Lib.hid ((B2.out _).trans (hb2.mono (B2.out _).size))
        clear h2 hb2 hs2
        go_wp2_with fail
        refine (once_any A2 (bearersL S.defs n).length k2' (bearersL S.defs n) w2 HLE.out (bearers_bd (fun d hd => (HDB.out d hd).1)) O2.out).mono ?_
        rintro e w3 h3
        obtain ⟨A3, k3, rfl, hs3, hb3⟩ := h3.row
        have O3 := Lib.hid hs3
        have B4 := Lib.hid (B3.out.trans (hb3.mono B3.out.size))
        clear h3 hs3 hb3
        go_wp2_with fail
        go_ret
        have hQ := HQ2.out
        subst hQ
        exact ⟨A3, k3, rfl, O3.out, B4.out⟩
      | false =>
        cases k3 : (d.kind == 3) with
        | false =>
          have hQ : Q = [] := HQ.out.trans (by simp [k1, k2, k3])
          subst hQ
          go_wp2_with fail
          go_ret
          exact ⟨none, 0, rfl, ⟨rfl, fun j x hx => by simp at hx⟩, B2.out _⟩
        | true =>
          have hQ : Q = objL S (onceL d.parts) := HQ.out.trans (by simp [k1, k2, k3])
          have HQ2 := Lib.hid hQ
          clear hQ
          go_wp2_with fail
          refine (once_any Ap d.parts.length kp d.parts _ FS.out.2.2.1 (str_bd HP.out) (((str_row HP.out).below ((D2 _).out.mono (Nat.le_trans HB0.out hs1))).more (Nat.le_trans HB0.out (Nat.le_trans hs1 (D2 _).out.size)))).mono ?_
          rintro e w3 ⟨V, rfl, h3, hb3⟩
          have O3 := Lib.hid h3
          have B3 := Lib.hid ((B2.out _).trans (hb3.mono (B2.out _).size))
          have C3 := Lib.hid (show CapS S B w.heap.size w3 from ⟨_, _, _, ((hb3.mono (D2 _).out.size).block _ hlw).trans (((D2 _).out.block _ hlw).trans HX1.out), TS.low (B3.out.mono HB0.out) HS0.out⟩)
          have hb3s := hb3.size
          clear h3 hb3
          go_wp2_with fail
          refine (delete_any S V (onceL d.parts) w3 B (w1.heap.size + 1) w.heap.size (by have := HB0.out; omega) (by simp at hb3s; omega) (by omega) (by have := once_len d.parts; omega) (once_bd (str_bd HP.out)) (O3.out.mono (by simp)) C3.out).mono ?_
          rintro e w4 ⟨A4, k4, rfl, hs4, hb4⟩
          have O4 := Lib.hid hs4
          have B4 := Lib.hid (B3.out.trans (hb4.mono (by omega)))
          clear hs4 hb4
          go_wp2_with fail
          go_ret
          have hQ := HQ2.out
          subst hQ
          exact ⟨A4, k4, rfl, O4.out, B4.out⟩
end Go.Proofs.Ytmamgaifpjgfkaa
