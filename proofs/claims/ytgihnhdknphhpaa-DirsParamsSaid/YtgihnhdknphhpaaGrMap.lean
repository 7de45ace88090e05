/- Maps from names to bools and to places. -/
import Derived.Test.YtgihnhdknphhpaaProg
import Derived.Maps.OwnSet
import Derived.Maps.Views
import Derived.WalkKit
namespace Go.Proofs.Ytgihnhdknphhpaa
open Go.RowKit

theorem gkey_ne {s t : ByteArray} (h : ¬ t = s) : (Lit.string t.data.toList) ≠ .string s.data.toList := fun e => h (by injection e with e; exact ByteArray.ext (Array.toList_inj.1 e))
/-- The name is one of these. -/
def inN (out : List ByteArray) (s : ByteArray) : Bool := out.any fun t => t.data.toList == s.data.toList
theorem inN_iff {out : List ByteArray} {s : ByteArray} : inN out s = true ↔ s ∈ out := by
  unfold inN
  rw [List.any_eq_true]
  constructor
  · rintro ⟨t, ht, e⟩
    have : t = s := ByteArray.ext (Array.toList_inj.1 (eq_of_beq e))
    exact this ▸ ht
  · exact fun h => ⟨s, h, by simp⟩
theorem inN_not {out : List ByteArray} {s : ByteArray} : inN out s = false ↔ s ∉ out := by
  rw [← inN_iff]; cases inN out s <;> simp
theorem inN_self (out : List ByteArray) (s : ByteArray) : inN (out ++ [s]) s = true := inN_iff.2 (by simp)
theorem inN_other (out : List ByteArray) {s t : ByteArray} (h : ¬ t = s) : inN (out ++ [s]) t = inN out t := by
  unfold inN
  rw [List.any_append]
  have : (s.data.toList == t.data.toList) = false := beq_eq_false_iff_ne.2 (fun e => h (ByteArray.ext (Array.toList_inj.1 e.symm)))
  simp only [List.any_cons, List.any_nil, this, Bool.or_false]
/-- The datum holds true just for these names. -/
def TrueG (D : DataW Unit) (out : List ByteArray) : Prop := Maps.IsMap D ∧ ∀ s : ByteArray, D.atKey (.string s.data.toList) (.lit (.bool false)) = .lit (.bool (inN out s))
theorem TrueG.nil : TrueG (.map []) [] := ⟨Maps.isMap_empty, fun _ => rfl⟩
theorem TrueG.put {D : DataW Unit} {out : List ByteArray} (h : TrueG D out) (s : ByteArray) : TrueG (D.put (.string s.data.toList) (.lit (.bool true))) (out ++ [s]) := by
  refine ⟨h.1.put _ _, fun t => ?_⟩
  by_cases e : t = s
  · subst e
    rw [Maps.atKey_put_same h.1 (by trivial), inN_self]
  · rw [Maps.atKey_put_other (gkey_ne e), h.2 t, inN_other out e]
theorem gbool_inv {P : Program} {e : TypeId} (he : P.underlying e = some .bool) {v : Value} {z : DataW Unit × List MemPlace} (h : plainElem P e v = some z) : ∃ x, v = .bool x ∧ z = (.lit (.bool x), []) := by
  unfold plainElem at h
  rw [he] at h
  cases v <;> simp at h
  exact ⟨_, rfl, h.symm⟩
set_option maxRecDepth 100000 in
theorem gzero_bool (w : World) : (zeroValue 4).run Try.prog w = .ok (.bool false) w := by rfl
set_option maxRecDepth 100000 in
theorem gzero_int (w : World) : (zeroValue 3).run Try.prog w = .ok (.int .i64 0) w := by rfl
/-- A set of names in memory. -/
def SeenM (W : World) (b : Nat) (out : List ByteArray) : Prop := ∃ D : DataW Unit, W.ownsMap Try.prog 9 (plainElem Try.prog 4) b out.length D ∧ TrueG D out
set_option maxRecDepth 100000 in
theorem SeenM.look {W : World} {b : Nat} {out : List ByteArray} (h : SeenM W b out) (s : ByteArray) (hs : s.size ≤ 9223372036854775807) : (Instr.lookup 75 (.map (some b)) (.string s) false).run Try.prog W = .ok (.bool (inN out s)) W := by
  obtain ⟨D, hm, hD⟩ := h
  have hkey := WideMaps.keyOf_string_mk (P := Try.prog) Try.underlying9 (show s.size ≤ maxLen by unfold maxLen; exact hs)
  obtain ⟨v, ps, hrun, hv⟩ := hm.lookup (Maps.string_keyed Try.underlying9) Try.underlying75 (gzero_bool W) (plainElem_bool Try.underlying4 false) hkey
  obtain ⟨x, rfl, hx⟩ := gbool_inv Try.underlying4 hv
  have e : x = inN out s := by
    have e1 := congrArg Prod.fst hx
    rw [hD.2 s] at e1
    injection e1 with e1
    injection e1 with e1
    exact e1.symm
  rw [hrun, e]
theorem gown_map {H : Type} {P : Program} {k : TypeId} {R : Value → Option (DataW H × List MemPlace)} {W W' : World} {b n : Nat} {D : DataW H} (h : W.ownsMap P k R b n D) (hb : W'.heap[b]? = W.heap[b]?) : W'.ownsMap P k R b n D := by
  obtain ⟨es, clock, h1, h2⟩ := h
  exact ⟨es, clock, hb.trans h1, h2⟩
theorem SeenM.one {W W' : World} {b : Nat} {out : List ByteArray} (h : SeenM W b out) (hb : W'.heap[b]? = W.heap[b]?) : SeenM W' b out := by
  obtain ⟨D, h1, h2⟩ := h
  exact ⟨D, gown_map h1 hb, h2⟩
theorem SeenM.lt {W : World} {b : Nat} {out : List ByteArray} (h : SeenM W b out) : b < W.heap.size := by
  obtain ⟨D, h1, h2⟩ := h
  exact h1.lt
theorem SeenM.made (w : World) : SeenM (w.alloc (.map #[] 0)) w.heap.size [] := ⟨.map [], World.ownsMap_made w _ _ _, TrueG.nil⟩
/-- The place of the first of these names. -/
def fstIx (out : List ByteArray) (s : ByteArray) : Nat := if inN out s = true then out.findIdx (fun t => t.data.toList == s.data.toList) else 0
theorem fst_old {out : List ByteArray} {s : ByteArray} (h : inN out s = true) (u : ByteArray) : fstIx (out ++ [u]) s = fstIx out s := by
  have h2 : inN (out ++ [u]) s = true := by unfold inN at h ⊢; rw [List.any_append, h, Bool.true_or]
  unfold fstIx
  rw [if_pos h, if_pos h2, List.findIdx_append, if_pos]
  exact List.findIdx_lt_length.2 (by unfold inN at h; rw [List.any_eq_true] at h; exact h)
theorem fst_new {out : List ByteArray} {s : ByteArray} (h : inN out s = false) : fstIx (out ++ [s]) s = out.length := by
  have hn : ¬ out.findIdx (fun t => t.data.toList == s.data.toList) < out.length := fun hl => by
    have := List.findIdx_lt_length.1 hl
    unfold inN at h
    rw [← Bool.not_eq_true, List.any_eq_true] at h
    exact h this
  unfold fstIx
  rw [if_pos (inN_self out s), List.findIdx_append, if_neg hn]
  simp
theorem fst_no {out : List ByteArray} {s : ByteArray} (h : inN out s = false) : fstIx out s = 0 := by
  unfold fstIx; rw [if_neg (by rw [h]; simp)]
/-- The datum holds the first places. -/
def FirstG (D : DataW Unit) (out : List ByteArray) : Prop := Maps.IsMap D ∧ ∀ s : ByteArray, Maps.has D (.string s.data.toList) = inN out s ∧ D.atKey (.string s.data.toList) (.lit (.int .i64 0)) = .lit (.int .i64 (fstIx out s))
theorem FirstG.nil : FirstG (.map []) [] := ⟨Maps.isMap_empty, fun _ => ⟨rfl, rfl⟩⟩
theorem FirstG.old {D : DataW Unit} {out : List ByteArray} (h : FirstG D out) {s : ByteArray} (hs : inN out s = true) : FirstG D (out ++ [s]) := by
  refine ⟨h.1, fun t => ?_⟩
  rw [(h.2 t).1, (h.2 t).2]
  by_cases e : t = s
  · subst e
    exact ⟨by rw [hs, inN_self], by rw [fst_old hs]⟩
  · refine ⟨by rw [inN_other out e], ?_⟩
    cases ht : inN out t with
    | true => rw [fst_old ht]
    | false => rw [fst_no ht, fst_no (by rw [inN_other out e]; exact ht)]
theorem FirstG.put {D : DataW Unit} {out : List ByteArray} (h : FirstG D out) {s : ByteArray} (hs : inN out s = false) : FirstG (D.put (.string s.data.toList) (.lit (.int .i64 out.length))) (out ++ [s]) := by
  refine ⟨h.1.put _ _, fun t => ?_⟩
  by_cases e : t = s
  · subst e
    exact ⟨by rw [Maps.has_put_same h.1 (by trivial), inN_self], by rw [Maps.atKey_put_same h.1 (by trivial), fst_new hs]⟩
  · refine ⟨by rw [Maps.has_put_other (gkey_ne e), (h.2 t).1, inN_other out e], ?_⟩
    rw [Maps.atKey_put_other (gkey_ne e), (h.2 t).2]
    cases ht : inN out t with
    | true => rw [fst_old ht]
    | false => rw [fst_no ht, fst_no (by rw [inN_other out e]; exact ht)]
/-- A map of first places in memory. -/
def FirstM (W : World) (b : Nat) (out : List ByteArray) : Prop := ∃ D : DataW Unit, W.ownsMap Try.prog 9 (plainElem Try.prog 3) b out.length D ∧ FirstG D out
theorem FirstM.one {W W' : World} {b : Nat} {out : List ByteArray} (h : FirstM W b out) (hb : W'.heap[b]? = W.heap[b]?) : FirstM W' b out := by
  obtain ⟨D, h1, h2⟩ := h
  exact ⟨D, gown_map h1 hb, h2⟩
theorem FirstM.lt {W : World} {b : Nat} {out : List ByteArray} (h : FirstM W b out) : b < W.heap.size := by
  obtain ⟨D, h1, h2⟩ := h
  exact h1.lt
theorem FirstM.made (w : World) : FirstM (w.alloc (.map #[] 0)) w.heap.size [] := ⟨.map [], World.ownsMap_made w _ _ _, FirstG.nil⟩
theorem gmake_map {P : Program} (t : TypeId) (w : World) : (Instr.makeMap t none).run P w = .ok (.map (some w.heap.size)) (w.alloc (.map #[] 0)) := rfl
end Go.Proofs.Ytgihnhdknphhpaa
