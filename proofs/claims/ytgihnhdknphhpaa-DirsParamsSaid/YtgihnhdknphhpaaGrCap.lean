/- Selections that come in: their slices hold their length. -/
import Derived.Test.YtgihnhdknphhpaaGrPre
namespace Go.Proofs.Ytgihnhdknphhpaa
open Go.ChangeShapes Go.WideShapes Go.ChangeAt Go.RowKit

theorem cap_rows {H : Type} {W : World} {P : Nat → Prop} {b o : Nat} {T : List Value → Option (DataW H × List MemPlace)} {elems : List (DataW H × List MemPlace)}
    (IH : ∀ x cs d, T cs = some d → TS W P (encS x) cs → ∃ As ks, cs[6]? = some (.slice As x.sels.len ks) ∧ x.sels.len ≤ ks ∧ CapL W P x.sels As) :
    ∀ (l : SelL) (j : Nat), j + l.len = elems.length → (∀ i, i < elems.length → (W.cells? 0 ⟨b, o + i * 7, none⟩ 7).bind T = elems[i]?) → RowT W P (encSL l) (some ⟨b, o + j * 7, none⟩) → CapL W P l (some ⟨b, o + j * 7, none⟩)
  | .nil, j, _, _, _ => capL_nil _
  | .cons x t, j, hj, hat, hR => by
    rw [SelL.len] at hj
    rw [encSL] at hR
    unfold RowT at hR
    obtain ⟨b', o', cs, e, hb, hc, hT, hR⟩ := hR
    have e := Option.some.inj e
    injection e with e1 e2 _
    subst e1 e2
    rw [encS_len] at hR
    have h0 := hat j (by omega)
    rw [List.getElem?_eq_getElem (by omega)] at h0
    obtain ⟨cs', hc', ht⟩ := Option.bind_eq_some_iff.1 h0
    obtain ⟨_, hl', hg'⟩ := cells_out (by decide) hc'
    have hl : cs.length = 7 := by rw [TS.len hT, encS_len]
    have he : cs' = cs := by
      refine List.ext_getElem? (fun i => ?_)
      rcases Nat.lt_or_ge i 7 with h | h
      · have h1 := hg' i _ (List.getElem?_eq_getElem (by omega))
        have h2 := hc i _ (List.getElem?_eq_getElem (by omega))
        rw [h1] at h2
        rw [List.getElem?_eq_getElem (by omega), List.getElem?_eq_getElem (by omega)]
        exact h2
      · rw [List.getElem?_eq_none (by omega), List.getElem?_eq_none (by omega)]
    subst he
    obtain ⟨As, ks, k1, k2, k3⟩ := IH x cs' _ ht hT
    have hR' : RowT W P (encSL t) (some ⟨b, o + (j + 1) * 7, none⟩) := by rw [show o + (j + 1) * 7 = o + j * 7 + 7 by omega]; exact hR
    have ih := cap_rows IH t (j + 1) (by omega) hat hR'
    rw [CapL]
    refine ⟨b, o + j * 7, As, ks, rfl, hb, hc 6 _ k1, k2, by rw [capX_eq]; exact k3, ?_⟩
    rw [show o + j * 7 + 7 = o + (j + 1) * 7 by omega]
    exact ih
theorem cap_slc {H : Type} {enc : TypeId × Value → H} {W : World} {P : Nat → Prop} {fuel : Nat} {cv : Value} {d : DataW H × List MemPlace} {l : SelL} {A : Option Addr} {k : Nat}
    (IH : ∀ n, n < fuel → ∀ x cs d, DataW.trod enc Try.prog W 0 (fun _ => true) true n 42 cs = some d → TS W P (encS x) cs → ∃ As ks, cs[6]? = some (.slice As x.sels.len ks) ∧ x.sels.len ≤ ks ∧ CapL W P x.sels As)
    (h : DataW.trod enc Try.prog W 0 (fun _ => true) true fuel 40 [cv] = some d) (hv : cv = .slice A l.len k) (hR : RowT W P (encSL l) A) : l.len ≤ k ∧ CapL W P l A := by
  rcases DataW.trod_slice Try.underlying40 h with ⟨hc, _⟩ | ⟨a, len, cap, elems, rest, n', hn', hcv, _, _, hlc, _, hel, hat, _⟩
  · simp only [List.cons.injEq, and_true, hv, Value.slice.injEq] at hc
    obtain ⟨_, hl, _⟩ := hc
    cases l with
    | nil => exact ⟨by rw [SelL.len]; exact Nat.zero_le _, capL_nil _⟩
    | cons x t => rw [SelL.len] at hl; omega
  · simp only [List.cons.injEq, and_true, hv, Value.slice.injEq] at hcv
    obtain ⟨rfl, rfl, rfl⟩ := hcv
    refine ⟨hlc, ?_⟩
    cases l with
    | nil => exact capL_nil _
    | cons x t =>
      obtain ⟨b, o, spot⟩ := a
      have hsp : spot = none := by
        rw [encSL] at hR
        unfold RowT at hR
        obtain ⟨b', o', cs, e, _⟩ := hR
        have e := Option.some.inj e
        injection e with _ _ e3
      subst hsp
      have := cap_rows (b := b) (o := o) (P := P) (elems := elems) (T := DataW.trod enc Try.prog W 0 (fun _ => true) true n' 42) (IH n' (by omega)) (.cons x t) 0 (by omega) (fun i hi => by
        have := hat i (by omega)
        rwa [add_at, goSel] at this) (by rw [Nat.zero_mul, Nat.add_zero]; exact hR)
      rwa [Nat.zero_mul, Nat.add_zero] at this
theorem cap_sel {H : Type} {enc : TypeId × Value → H} {W : World} {P : Nat → Prop} : ∀ (fuel : Nat) (x : SelT) (cs : List Value) (d : DataW H × List MemPlace), DataW.trod enc Try.prog W 0 (fun _ => true) true fuel 42 cs = some d → TS W P (encS x) cs → ∃ As ks, cs[6]? = some (.slice As x.sels.len ks) ∧ x.sels.len ≤ ks ∧ CapL W P x.sels As := by
  intro fuel
  induction fuel using Nat.strongRecOn with
  | ind fuel ih =>
    intro x cs d h hT
    obtain ⟨xs, n, rfl, _, _, hxl, hf⟩ := DataW.trod_struct Try.underlying42 h
    obtain ⟨Ag, kg, Ad, kd, As, ks, rfl, _, _, _, _, _, z6, z7⟩ := sel_cells hT
    match xs, hxl with
    | [y0, y1, y2, y3, y4, y5, y6], _ =>
      have f6 : DataW.trod enc Try.prog W 0 (fun _ => true) true n 40 [.slice As x.sels.len ks] = some y6 := by have h' : DataW.trod enc Try.prog W 0 (fun _ => true) true n 40 (([.int .i64 x.kind, .string x.als, .string x.name, .slice Ag x.args.len kg, .slice Ad x.dirs.length kd, .string x.on, .slice As x.sels.len ks] : List Value).drop 6|>.take (Try.prog.cellsOf 40)) = [y0, y1, y2, y3, y4, y5, y6][6]? := hf 6 _ rfl; rw [goSS] at h'; exact h'
      obtain ⟨k1, k2⟩ := cap_slc (fun n' hn' => ih n' (by omega)) f6 rfl z7
      exact ⟨As, ks, rfl, k1, k2⟩
/-- The selections of fragments and of operations hold their length, too. -/
def CapF (W : World) (P : Nat → Prop) (n k : Nat) (g : Nat → Option SelL) (A : Option Addr) : Prop := ∀ (q : Nat) l b p As ks, g q = some l → A = some ⟨b, p, none⟩ → W.cell? ⟨b, p + q * n + k, none⟩ = some (.slice As l.len ks) → RowT W P (encSL l) As → l.len ≤ ks ∧ CapL W P l As
def CapD (W : World) (P : Nat → Prop) (D : DocT) (c0 c1 : Value) : Prop :=
  (∀ A k, c0 = .slice A D.ops.length k → CapF W P 5 4 (fun q => (D.ops[q]?).map (·.sels)) A) ∧ ∀ A k, c1 = .slice A D.frags.length k → CapF W P 4 3 (fun q => (D.frags[q]?).map (·.sels)) A
theorem cap_doc {H : Type} {enc : TypeId × Value → H} {W : World} {P : Nat → Prop} {d : DataW H} {ps : List MemPlace} {D : DocT} {c0 c1 : Value} (hd : DataW.Trod enc Try.prog W 0 (fun _ => true) true 49 (.agg #[c0, c1]) d ps) : CapD W P D c0 c1 := by
  obtain ⟨fuel, hf⟩ := hd
  obtain ⟨xs, n, rfl, _, _, hxl, hf⟩ := DataW.trod_struct Try.underlying49 hf
  match xs, hxl with
  | [y0, y1], _ =>
    have f0 : DataW.trod enc Try.prog W 0 (fun _ => true) true n 46 [c0] = some y0 := by have h' : DataW.trod enc Try.prog W 0 (fun _ => true) true n 46 (([c0, c1] : List Value).drop 0|>.take (Try.prog.cellsOf 46)) = [y0, y1][0]? := hf 0 _ rfl; rw [goSO] at h'; exact h'
    have f1 : DataW.trod enc Try.prog W 0 (fun _ => true) true n 47 [c1] = some y1 := by have h' : DataW.trod enc Try.prog W 0 (fun _ => true) true n 47 (([c0, c1] : List Value).drop 1|>.take (Try.prog.cellsOf 47)) = [y0, y1][1]? := hf 1 _ rfl; rw [goSF] at h'; exact h'
    refine ⟨fun A k e q l b p As ks hg hA hc hR => ?_, fun A k e q l b p As ks hg hA hc hR => ?_⟩
    · subst e hA
      obtain ⟨x, hx, rfl⟩ := Option.map_eq_some_iff.1 hg
      have hq := (List.getElem?_eq_some_iff.1 hx).1
      rcases DataW.trod_slice Try.underlying46 f0 with ⟨hc, _⟩ | ⟨a, len, cap, elems, rest, n', hn', hcv, _, _, hlc, _, hel, hat, _⟩
      · simp at hc
      · simp only [List.cons.injEq, and_true, Value.slice.injEq, Option.some.injEq] at hcv
        obtain ⟨rfl, rfl, rfl⟩ := hcv
        have h0 := hat q hq
        rw [List.getElem?_eq_getElem (by omega), add_at, goOp] at h0
        obtain ⟨cs, hcs, ht⟩ := Option.bind_eq_some_iff.1 h0
        obtain ⟨_, hl, hg'⟩ := cells_out (by decide) hcs
        obtain ⟨z0, z1, z2, z3, z4, rfl⟩ := goL5 hl
        have hz := hg' 4 _ rfl
        rw [hc] at hz
        have hz := (Option.some.inj hz).symm
        subst hz
        obtain ⟨xs, n2, rfl, _, _, hxl, hf⟩ := DataW.trod_struct Try.underlying45 ht
        match xs, hxl with
        | [u0, u1, u2, u3, u4], _ =>
          have f4 : DataW.trod enc Try.prog W 0 (fun _ => true) true n2 40 [.slice As x.sels.len ks] = some u4 := by have h' : DataW.trod enc Try.prog W 0 (fun _ => true) true n2 40 (([z0, z1, z2, z3, .slice As x.sels.len ks] : List Value).drop 4|>.take (Try.prog.cellsOf 40)) = [u0, u1, u2, u3, u4][4]? := hf 4 _ rfl; rw [goSS] at h'; exact h'
          exact cap_slc (fun n' _ => cap_sel n') f4 rfl hR
    · subst e hA
      obtain ⟨x, hx, rfl⟩ := Option.map_eq_some_iff.1 hg
      have hq := (List.getElem?_eq_some_iff.1 hx).1
      rcases DataW.trod_slice Try.underlying47 f1 with ⟨hc, _⟩ | ⟨a, len, cap, elems, rest, n', hn', hcv, _, _, hlc, _, hel, hat, _⟩
      · simp at hc
      · simp only [List.cons.injEq, and_true, Value.slice.injEq, Option.some.injEq] at hcv
        obtain ⟨rfl, rfl, rfl⟩ := hcv
        have h0 := hat q hq
        rw [List.getElem?_eq_getElem (by omega), add_at, goFr] at h0
        obtain ⟨cs, hcs, ht⟩ := Option.bind_eq_some_iff.1 h0
        obtain ⟨_, hl, hg'⟩ := cells_out (by decide) hcs
        obtain ⟨z0, z1, z2, z3, rfl⟩ := goL4 hl
        have hz := hg' 3 _ rfl
        rw [hc] at hz
        have hz := (Option.some.inj hz).symm
        subst hz
        obtain ⟨xs, n2, rfl, _, _, hxl, hf⟩ := DataW.trod_struct Try.underlying74 ht
        match xs, hxl with
        | [u0, u1, u2, u3], _ =>
          have f3 : DataW.trod enc Try.prog W 0 (fun _ => true) true n2 40 [.slice As x.sels.len ks] = some u3 := by have h' : DataW.trod enc Try.prog W 0 (fun _ => true) true n2 40 (([z0, z1, z2, .slice As x.sels.len ks] : List Value).drop 3|>.take (Try.prog.cellsOf 40)) = [u0, u1, u2, u3][3]? := hf 3 _ rfl; rw [goSS] at h'; exact h'
          exact cap_slc (fun n' _ => cap_sel n') f3 rfl hR
theorem cap_sels {H : Type} {enc : TypeId × Value → H} {W : World} {P : Nat → Prop} {d : DataW H} {ps : List MemPlace} {l : SelL} {A : Option Addr} {k : Nat} (hd : DataW.Trod enc Try.prog W 0 (fun _ => true) true 40 (.slice A l.len k) d ps) (hR : RowT W P (encSL l) A) : l.len ≤ k ∧ CapL W P l A := by
  obtain ⟨fuel, hf⟩ := hd
  exact cap_slc (fun n' _ => cap_sel n') hf rfl hR
end Go.Proofs.Ytgihnhdknphhpaa
