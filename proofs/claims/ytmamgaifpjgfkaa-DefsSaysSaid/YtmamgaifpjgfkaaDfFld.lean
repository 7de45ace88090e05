/- defs.Find and defs.Field. -/
import Derived.Test.YtmamgaifpjgfkaaDfOwnDef
import Derived.Test.YtmamgaifpjgfkaaWParts
namespace Go.Proofs.Ytmamgaifpjgfkaa
open Go.RowKit

theorem OwnP.lt {P : Nat → Prop} {K : Nat} {w : World} {b : Nat} (h : OwnP P K w b) : b < w.heap.size := h.1
/-- What is found, in memory of one's own or what was there. -/
def FoundO (x : DefnT × Bool) (w : World) (e : Ending) (w' : World) : Prop :=
  ∃ c0 c1 c2 c3 c4 c5, e = .returned (.tuple #[.agg #[c0, c1, c2, c3, c4, c5], .bool x.2]) ∧ TS w' (fun b => b < w'.heap.size) (encDefn x.1) [c0, c1, c2, c3, c4, c5] ∧ Below w.heap.size w w'
/-- The schema's box, the result's cells; all that was there stands. -/
structure FR (w : World) (c0 c1 c2 : Value) (r : Obj) (W : World) : Prop where
  low : Below w.heap.size w W
  size : w.heap.size + 2 ≤ W.heap.size
  box : W.heap[w.heap.size]? = some (.cells #[c0, c1, c2] 24 (0, 0))
  res : W.heap[w.heap.size + 1]? = some r
theorem FR.next {w W W' : World} {c0 c1 c2 : Value} {r : Obj} (h : FR w c0 c1 c2 r W) (hb : Below W.heap.size W W') : FR w c0 c1 c2 r W' := by
  have hs := h.size
  exact ⟨h.low.trans (hb.mono h.low.size), Nat.le_trans h.size hb.size, (hb.block _ (by omega)).trans h.box, (hb.block _ (by omega)).trans h.res⟩
theorem FR.start (w : World) (c0 c1 c2 : Value) (r : Obj) : FR w c0 c1 c2 r ((w.alloc (.cells #[c0, c1, c2] 24)).alloc r) :=
  ⟨two_below w _ _, by rw [two_size]; exact Nat.le_refl _, (Below.heap_alloc (w.alloc (.cells #[c0, c1, c2] 24)) r w.heap.size (by simp)).trans (heap_alloc_new w (.cells #[c0, c1, c2] 24)), heap_two w _ _⟩
set_option maxRecDepth 100000 in
set_option maxHeartbeats 8000000 in
theorem Find_any (S : SchT) (n : ByteArray) (c0 c1 c2 : Value) (w : World) (B : Nat) (hB : B ≤ w.heap.size) (hn : n.size ≤ 9223372036854775807) (hz : SlimS S) (hS : TS w (fun b => b < B) (encSch S) [c0, c1, c2]) :
    Calls Try.prog 7 #[.agg #[c0, c1, c2], .string n] w (FoundO (findD S.defs n) w) := by
  have F := Lib.hid (fun (wx : World) (hb : Below w.heap.size w wx) => find_any S n c0 c1 c2 wx B (Nat.le_trans hB hb.size) hn (TS.low (hb.mono hB) hS))
  have FS := Lib.hid (find_slim hz.2 n)
  have HB := Lib.hid hB
  obtain ⟨A, k, e, _⟩ := sch_cells hS
  injection e with e0 e
  injection e with e1 e
  injection e with e2 e
  subst e0 e1 e2
  clear hB e hn hS hz
  generalize findD S.defs n = x at F FS ⊢
  have X0 := Lib.hid (FR.start w (.slice A S.defs.length k) (.string S.query) (.string S.mutation) (.cells #[.int .i64 0, .string ⟨#[]⟩, .slice none 0 0, .slice none 0 0, .slice none 0 0, .slice none 0 0] 32))
  go_enter Try.func7, Try.ntmps7
  go_wp2_with fail
  refine (F.out _ X0.out.low).mono ?_
  rintro e w1 ⟨d0, d1, d2, d3, d4, d5, rfl, hT, hb1⟩
  have X1 := Lib.hid (X0.out.next hb1)
  have T1 := Lib.hid hT
  have D1 := Lib.hid (fun o => owndf_any x.1 d0 d1 d2 d3 d4 d5 (w1.alloc o) (fun b => b < B) (fun b hb => Nat.lt_of_lt_of_le hb (Nat.le_trans HB.out (Nat.le_trans X1.out.low.size (dbelow_new w1 o).size))) FS.out (TS.low ((dbelow_new w1 o).mono (Nat.le_trans HB.out X1.out.low.size)) T1.out))
  obtain ⟨Af, kf, Ax, kx, Ap, kp, Am, km, e, _⟩ := defn_cells hT
  simp only [List.cons.injEq, and_true] at e
  obtain ⟨rfl, rfl, rfl, rfl, rfl, rfl⟩ := e
  clear hT hb1 F X0
  go_wp2_with fail
  refine (D1.out _).mono ?_
  rintro e w2 ⟨A1, k1, A2, k2, A3, k3, A4, k4, rfl, hT2, hb2⟩
  have X2 := Lib.hid ((X1.out.next (dbelow_new w1 _)).next hb2)
  have T2 := Lib.hid hT2
  obtain ⟨⟨z0, z1, z2, z3, z4, z5⟩, v0, v1, v2, v3, v4, v5⟩ := six_cells X2.out.res
  have hs1 := X1.out.size
  clear hT2 hb2 D1 X1 T1
  go_wp2_with fail
  refine ret_d2 rfl rfl rfl (six_set X2.out.res) ?_
  refine ⟨_, _, _, _, _, _, rfl, TS.keep (fun b hb => ⟨by simpa [World.setCell] using hb.1, six_heap (hb.ne (g := w.heap.size + 1) (fun b h => by have := HB.out; omega) (by simp; omega))⟩) _ _ T2.out, six_low (b := w.heap.size + 1) X2.out.low (Nat.le_succ _)⟩
/-- The field of a name. -/
def zeroF : FieldT := ⟨⟨#[]⟩, [], ⟨#[]⟩, 0, 0, []⟩
def fieldL : List FieldT → ByteArray → FieldT × Bool
  | [], _ => (zeroF, false)
  | d :: t, n => if d.name.toList == n.toList then (d, true) else fieldL t n
def tnameB : ByteArray := ⟨#[95, 95, 116, 121, 112, 101, 110, 97, 109, 101]⟩
def strB : ByteArray := ⟨#[83, 116, 114, 105, 110, 103]⟩
def fieldD (l : List DefnT) (t n : ByteArray) : FieldT × Bool :=
  if (n.toList == [95, 95, 116, 121, 112, 101, 110, 97, 109, 101]) = true ∧ compD l t = true then (⟨tnameB, [], strB, 0, 1, []⟩, true)
  else if isD l t [1, 2] = true then fieldL (findD l t).1.fields n else (zeroF, false)
theorem fieldL_at {l : List FieldT} {q : Nat} {d : FieldT} {n : ByteArray} (h : l[q]? = some d) : fieldL (l.drop q) n = if d.name.toList == n.toList then (d, true) else fieldL (l.drop (q + 1)) n := by
  have hq : q < l.length := (List.getElem?_eq_some_iff.1 h).1
  have e : l[q] = d := (List.getElem?_eq_some_iff.1 h).2
  rw [List.drop_eq_getElem_cons hq, e, fieldL]
theorem field_slim {l : List FieldT} {n : ByteArray} (h : ∀ f, f ∈ l → SlimF f) : SlimF (fieldL l n).1 := by
  induction l with
  | nil => exact ⟨by simp [fieldL, zeroF], by simp [fieldL, zeroF], fun x hx => by simp [fieldL, zeroF] at hx⟩
  | cons d t ih =>
    rw [fieldL]
    split
    · exact h d (List.mem_cons_self ..)
    · exact ih (fun f hf => h f (List.mem_cons_of_mem _ hf))
theorem fld_none {w : World} {P : Nat → Prop} (n t : ByteArray) (m : Int) (hn : n.size ≤ 9223372036854775807) (ht : t.size ≤ 9223372036854775807) : TS w P (encField ⟨n, [], t, 0, m, []⟩) [.string n, .slice none 0 0, .string t, .int .i64 0, .int .i64 m, .slice none 0 0] :=
  fld_ts (x := ⟨n, [], t, 0, m, []⟩) ⟨hn, ht⟩ (by simp) (by simp) (by rw [rowOf]; unfold RowT; trivial) (by rw [rowOf]; unfold RowT; trivial)
theorem ret_f2 {R : Ending → World → Prop} {fn : Func} {a : Act} {W : World} {c0 c1 c2 c3 c4 c5 : Value} {p u b : Nat} (hf : fn.results = #[.cell p 46, .tmp u]) (h2 : a.tmps.getD p undef = .pointer (some ⟨b, 0, none⟩)) (hd : a.defers = [])
    (hc : W.heap[b]? = some (.cells #[c0, c1, c2, c3, c4, c5] 46 (0, 0))) (hR : R (.returned (.tuple #[.agg #[c0, c1, c2, c3, c4, c5], a.tmps.getD u undef])) W) : bodyPost Try.prog fn R .ret a W := by
  have hl : (loadVar 46 ⟨b, 0, none⟩).run Try.prog W = .ok (.agg #[c0, c1, c2, c3, c4, c5]) W :=
    run_loadVar_row W b 46 46 #[c0, c1, c2, c3, c4, c5] (0, 0) _ hc Try.underlying46 rfl (by kernel_rfl)
  refine bodyPost_ret ?_ hd hR
  have h2' : a.tmps[p]?.getD undef = .pointer (some ⟨b, 0, none⟩) := by rw [← h2]; simp
  simp [results, hf, h2', asAddr, hl]
def FoundF (x : FieldT × Bool) (w : World) (e : Ending) (w' : World) : Prop :=
  ∃ c0 c1 c2 c3 c4 c5, e = .returned (.tuple #[.agg #[c0, c1, c2, c3, c4, c5], .bool x.2]) ∧ TS w' (fun b => b < w'.heap.size) (encField x.1) [c0, c1, c2, c3, c4, c5] ∧ Below w.heap.size w w'
theorem must_str : mustV strB 0 0 = .agg #[.string strB, .int .i64 0, .int .i64 1] := by kernel_rfl
end Go.Proofs.Ytmamgaifpjgfkaa
