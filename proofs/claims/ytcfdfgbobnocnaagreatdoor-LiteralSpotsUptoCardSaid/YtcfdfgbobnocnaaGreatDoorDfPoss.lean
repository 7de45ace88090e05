/- defs.Possible. -/
import Derived.Test.YtcfdfgbobnocnaaGreatDoorDfFind
import Derived.Test.YtcfdfgbobnocnaaGreatDoorVOpen
import Derived.Maps.Own
import Derived.Maps.Views
import Derived.Deep.AppendLies
import Derived.Laws.EntriesVeiled
import Derived.Lib.SliceRun
namespace Go.Proofs.YtcfdfgbobnocnaaGreatDoor
open Go.RowKit

/-- A row of texts of one's own. -/
def SR (base : Nat) (W : World) (V : Value) (xs : List ByteArray) : Prop := W.ownsRow base 9 1 V xs.length (xs.map .string)
theorem SR.nil (base : Nat) (W : World) : SR base W (.slice none 0 0) [] := World.ownsRow_nil _ _ _ _
theorem SR.low {base : Nat} {W W' : World} {V : Value} {xs : List ByteArray} (h : SR base W V xs) (hb : Below W.heap.size W W') : SR base W' V xs := own_low h hb
theorem SR.strs {base : Nat} {W : World} {V : Value} {xs : List ByteArray} (h : SR base W V xs) : ∃ A c, V = .slice A xs.length c ∧ Blk.StrsAt W W.heap.size A xs.length xs := by
  obtain ⟨A, c, e⟩ := Blk.own_form h
  subst e
  exact ⟨A, c, rfl, (Blk.strs_of_own h).2⟩
theorem SR.mono {B B' : Nat} {w : World} {V : Value} {xs : List ByteArray} (h : SR B w V xs) (hb : B' ≤ B) : SR B' w V xs := by
  obtain ⟨h0, h1⟩ := h
  refine ⟨h0, ?_⟩
  rcases h1 with h1 | ⟨g, cap, cur, a1, a2, a3⟩
  · exact .inl h1
  · exact .inr ⟨g, cap, cur, a1, Nat.le_trans hb a2, a3⟩
theorem info_parts1 {t : TypeId} {z : Value} {s b : Nat} (h : (Tryz.prog.info? t).map (fun i => (i.zero, i.size, i.bytes)) = some (some z, s, b)) : ∃ i, Tryz.prog.info? t = some i ∧ i.zero = some z ∧ i.size = s ∧ i.bytes = b := by
  cases hi : Tryz.prog.info? t with
  | none => rw [hi] at h; cases h
  | some i => rw [hi] at h; simp at h; exact ⟨i, rfl, h.1, h.2.1, h.2.2⟩
theorem info_txt : (Tryz.prog.info? 9).map (fun i => (i.zero, i.size, i.bytes)) = some (some (.string ⟨#[]⟩), 1, 16) := by kernel_rfl
theorem below_grown {B : Nat} {w w1 w2 : World} {k : Option Nat} (h : Below B w w1) (hg : w1.grownBy w2 k) (hB : B ≤ w1.heap.size) (hk : ∀ b, k = some b → B ≤ b) : Below B w w2 :=
  ⟨hg.os.trans h.os, hg.tape.trans h.tape, hg.output.trans h.output, Nat.le_trans h.size hg.size, fun i hi => (hg.block i (by omega) (fun e => by have := hk i e.symm; omega)).trans (h.block i hi)⟩
theorem SR.own {base : Nat} {w : World} {V : Value} {xs : List ByteArray} (h : SR base w V xs) : ∀ b, V.ownBlock = some b → base ≤ b := fun b hb => (World.ownsRow.lt h b hb).1

/-- The names of those Objects that have the Face. -/
def bearsB (d : DefnT) (f : ByteArray) : Bool := d.kind == 1 && hasN d.faces f
def bearersL : List DefnT → ByteArray → List ByteArray
  | [], _ => []
  | d :: t, f => if bearsB d f = true then d.name :: bearersL t f else bearersL t f
theorem bearers_snoc (l : List DefnT) (d : DefnT) (f : ByteArray) : bearersL (l ++ [d]) f = bearersL l f ++ (if bearsB d f = true then [d.name] else []) := by
  induction l with
  | nil =>
    show bearersL [d] f = [] ++ _
    unfold bearersL bearersL
    split <;> rfl
  | cons a t ih => rw [List.cons_append, bearersL, bearersL, ih]; split <;> rfl
theorem bearers_len (l : List DefnT) (f : ByteArray) : (bearersL l f).length ≤ l.length := by
  induction l with
  | nil => exact Nat.le_refl _
  | cons a t ih => rw [bearersL]; split <;> simp <;> omega
theorem bearers_take {l : List DefnT} {q : Nat} {d : DefnT} (f : ByteArray) (h : l[q]? = some d) : bearersL (l.take (q + 1)) f = bearersL (l.take q) f ++ (if bearsB d f = true then [d.name] else []) := by
  rw [List.take_add_one, h]
  exact bearers_snoc _ _ _
/-- What is answered: a row of one's own. -/
def RowS (xs : List ByteArray) (w : World) (e : Ending) (w' : World) : Prop := ∃ V, e = .returned V ∧ SR w.heap.size w' V xs ∧ Below w.heap.size w w'
theorem plain_bool_inv {P : Program} {e : TypeId} (he : P.underlying e = some .bool) {v : Value} {z : DataW Unit × List MemPlace} (h : plainElem P e v = some z) : ∃ x, v = .bool x ∧ z = (.lit (.bool x), []) := by
  unfold plainElem at h
  rw [he] at h
  cases v <;> simp at h
  exact ⟨_, rfl, h.symm⟩
/-- The datum holds true just for these texts. -/
def SeenD (D : DataW Unit) (out : List ByteArray) : Prop := Maps.IsMap D ∧ ∀ s : ByteArray, D.atKey (.string s.data.toList) (.lit (.bool false)) = .lit (.bool (hasN out s))
theorem SeenD.nil : SeenD (.map []) [] := ⟨Maps.isMap_empty, fun _ => rfl⟩
theorem SeenD.put {D : DataW Unit} {out : List ByteArray} (h : SeenD D out) (s : ByteArray) : SeenD (D.put (.string s.data.toList) (.lit (.bool true))) (out ++ [s]) := by
  refine ⟨h.1.put _ _, fun t => ?_⟩
  by_cases e : t.data.toList = s.data.toList
  · rw [e, Maps.atKey_put_same h.1 (by trivial)]
    have : t = s := ByteArray.ext (Array.toList_inj.1 e)
    subst this
    rw [show hasN (out ++ [t]) t = true from hasN_iff.2 (by simp)]
  · rw [Maps.atKey_put_other (fun e' => e (by injection e')), h.2 t]
    have : hasN (out ++ [s]) t = hasN out t := by
      unfold hasN
      rw [List.any_append]
      have : (s.data.toList == t.data.toList) = false := beq_eq_false_iff_ne.2 (fun e' => e e'.symm)
      simp only [List.any_cons, List.any_nil, this, Bool.or_false]
    rw [this]
set_option maxRecDepth 100000 in
theorem zero_bool (w : World) : (zeroValue 4).run Tryz.prog w = .ok (.bool false) w := by rfl
set_option maxRecDepth 100000 in
theorem txt_new (w : World) (s : ByteArray) (t : TypeId) {g : Nat} (hg : g = w.heap.size) : ∀ (j : Nat) u, [Value.string s][j]? = some u → (w.alloc (.cells #[.string s] t)).cell? ((⟨g, 0, none⟩ : Addr).add j) = some u := by
  subst hg
  intro j u hu
  rw [add_at, Nat.zero_add]
  match j, hu with
  | 0, hu => cases hu; rw [World.cell?_alloc_at _ _ _ _ rfl]; rfl
theorem own_or {V : Value} {g H n c k h1 : Nat} (e : (Value.slice (some ⟨g, 0, none⟩) n c).ownBlock = some k) (h : V.ownBlock = some g ∨ g = H) (hH : h1 ≤ H) : V.ownBlock = some k ∨ h1 ≤ k := by
  have e' : some g = some k := e
  injection e' with e'
  subst e'
  rcases h with h | h
  · exact .inl h
  · exact .inr (by omega)
set_option maxRecDepth 100000 in
/-- What the map says of a name. -/
theorem seen_look {g n : Nat} {w : World} {out : List ByteArray} {D : DataW Unit} (hm : w.ownsMap Tryz.prog 9 (plainElem Tryz.prog 4) g n D) (hD : SeenD D out) (s : ByteArray) (hs : s.size ≤ maxLen) :
    (Instr.lookup 75 (.map (some g)) (.string s) false).run Tryz.prog w = .ok (.bool (hasN out s)) w := by
  have hkey := WideMaps.keyOf_string_mk (P := Tryz.prog) Tryz.underlying9 hs
  obtain ⟨v, ps, hrun, hv⟩ := hm.lookup (Maps.string_keyed Tryz.underlying9) Tryz.underlying75 (zero_bool w) (plainElem_bool Tryz.underlying4 false) hkey
  obtain ⟨x, rfl, hx⟩ := plain_bool_inv Tryz.underlying4 hv
  have e : x = hasN out s := by
    have e1 := congrArg Prod.fst hx
    rw [hD.2 s] at e1
    injection e1 with e1
    injection e1 with e1
    exact e1.symm
  rw [hrun, e]
/-- Each name once. -/
def onceL (xs : List ByteArray) : List ByteArray := xs.foldl addN []
theorem once_take {xs : List ByteArray} {k : Nat} {x : ByteArray} (h : xs[k]? = some x) : onceL (xs.take (k + 1)) = addN (onceL (xs.take k)) x := by
  unfold onceL
  rw [List.take_add_one, h, List.foldl_append]
  rfl
theorem adds_len : ∀ (l out : List ByteArray), (l.foldl addN out).length ≤ out.length + l.length
  | [], out => by simp
  | s :: t, out => by
    rw [List.foldl_cons]
    have := adds_len t (addN out s)
    have : (addN out s).length ≤ out.length + 1 := by unfold addN; split <;> simp
    rw [List.length_cons]
    omega
theorem once_len (xs : List ByteArray) : (onceL xs).length ≤ xs.length := by
  have := adds_len xs []
  unfold onceL
  simpa using this
end Go.Proofs.YtcfdfgbobnocnaaGreatDoor
namespace Go.Proofs.YtcfdfgbobnocnaaGreatDoor
open Go.RowKit

/-- A captured schema: its box. -/
def CapS (S : SchT) (B sb : Nat) (w : World) : Prop := ∃ c0 c1 c2, w.heap[sb]? = some (.cells #[c0, c1, c2] 24 (0, 0)) ∧ TS w (fun b => b < B) (encSch S) [c0, c1, c2]
theorem CapS.low {S : SchT} {B sb K : Nat} {w w' : World} (h : CapS S B sb w) (hb : Below K w w') (hB : B ≤ K) (hs : sb < K) : CapS S B sb w' := by
  obtain ⟨c0, c1, c2, h1, h2⟩ := h
  exact ⟨c0, c1, c2, (hb.block _ hs).trans h1, TS.low (hb.mono hB) h2⟩
theorem CapS.lt {S : SchT} {B sb : Nat} {w : World} (h : CapS S B sb w) : sb < w.heap.size := by
  obtain ⟨c0, c1, c2, h1, _⟩ := h
  exact (Array.getElem?_eq_some_iff.1 h1).1
theorem three_cells {w : World} {g : Nat} {c0 c1 c2 : Value} {t : TypeId} (h : w.heap[g]? = some (.cells #[c0, c1, c2] t (0, 0))) : w.cell? ⟨g, 0, none⟩ = some c0 ∧ w.cell? ⟨g, 1, none⟩ = some c1 ∧ w.cell? ⟨g, 2, none⟩ = some c2 := by
  simp [World.cell?, h]
/-- Is it the name of an Object? -/
def objB (S : SchT) (n : ByteArray) : Bool := isD S.defs n [1]
/-- The first that is no Object's. -/
def FirstO (S : SchT) (xs : List ByteArray) (k : Int) : Prop := (k = -1 ∧ ∀ x, x ∈ xs → objB S x = true) ∨ ∃ j : Nat, k = (j : Int) ∧ (∃ x, xs[j]? = some x ∧ objB S x = false) ∧ ∀ x, x ∈ xs.take j → objB S x = true
def IdxO (S : SchT) (xs : List ByteArray) (w : World) (e : Ending) (w' : World) : Prop := ∃ k : Int, e = .returned (.int .i64 k) ∧ FirstO S xs k ∧ Below w.heap.size w w'
theorem all_take {S : SchT} {xs : List ByteArray} {k : Nat} {x : ByteArray} (h : ∀ y, y ∈ xs.take k → objB S y = true) (hx : xs[k]? = some x) (ho : objB S x = true) : ∀ y, y ∈ xs.take (k + 1) → objB S y = true := by
  intro y hy
  rw [List.take_add_one, hx] at hy
  rcases List.mem_append.1 hy with h1 | h1
  · exact h y h1
  · simp at h1; subst h1; exact ho
end Go.Proofs.YtcfdfgbobnocnaaGreatDoor
namespace Go.Proofs.YtcfdfgbobnocnaaGreatDoor
open Go.RowKit

theorem low_setCells {B : Nat} {a : World} (b : Nat) (hb : B ≤ b) : ∀ (vs : List Value) (o : Nat) {w : World}, Below B a w → Below B a (w.setCells b o vs)
  | [], _, _, h => h
  | v :: r, o, _, h => low_setCells b hb r (o + 1) (h.setCell (p := ⟨b, o, none⟩) hb v)
/-- The Objects' names. -/
def objL (S : SchT) (xs : List ByteArray) : List ByteArray := xs.filter (objB S)
theorem objL_all {S : SchT} {xs : List ByteArray} (h : ∀ x, x ∈ xs → objB S x = true) : objL S xs = xs := List.filter_eq_self.2 h
theorem objL_take {S : SchT} {xs : List ByteArray} {k : Nat} {x : ByteArray} (h : xs[k]? = some x) : objL S (xs.take (k + 1)) = objL S (xs.take k) ++ (if objB S x = true then [x] else []) := by
  unfold objL
  rw [List.take_add_one, h, List.filter_append]
  congr 1
  simp only [Option.toList_some, List.filter_cons, List.filter_nil]
theorem objL_len (S : SchT) (xs : List ByteArray) : (objL S xs).length ≤ xs.length := List.length_filter_le _ _
/-- The row while it is gone through: what stays lies in front, what is still to be looked at where it was. -/
def DelAt (S : SchT) (xs : List ByteArray) (g i j cap : Nat) (w : World) : Prop :=
  ∃ cur : Array Value, w.heap[g]? = some (.cells cur 9 (0, 0)) ∧ cur.size = cap ∧ (objL S (xs.take j)).length = i ∧ (∀ (t : Nat) x, (objL S (xs.take j))[t]? = some x → cur[t]? = some (.string x)) ∧ ∀ (t : Nat) x, j ≤ t → xs[t]? = some x → cur[t]? = some (.string x)
theorem DelAt.low {S : SchT} {xs : List ByteArray} {g i j cap K : Nat} {w w' : World} (h : DelAt S xs g i j cap w) (hb : Below K w w') (hg : g < K) : DelAt S xs g i j cap w' := by
  obtain ⟨cur, h1, h2⟩ := h
  exact ⟨cur, (hb.block _ hg).trans h1, h2⟩
theorem DelAt.lt {S : SchT} {xs : List ByteArray} {g i j cap : Nat} {w : World} (h : DelAt S xs g i j cap w) : g < w.heap.size := by
  obtain ⟨cur, h1, _⟩ := h
  exact (Array.getElem?_eq_some_iff.1 h1).1
theorem cells_get {w : World} {g : Nat} {cur : Array Value} {t : TypeId} (h : w.heap[g]? = some (.cells cur t (0, 0))) (i : Nat) : w.cell? ⟨g, i, none⟩ = cur[i]? := by
  simp [World.cell?, h]
theorem cells_frozen {w : World} {g : Nat} {cur : Array Value} {t : TypeId} (h : w.heap[g]? = some (.cells cur t (0, 0))) (i : Nat) : w.frozen? ⟨g, i, none⟩ = false := by
  simp [World.frozen?, h]
theorem DelAt.skip {S : SchT} {xs : List ByteArray} {g i j cap : Nat} {w : World} {x : ByteArray} (h : DelAt S xs g i j cap w) (hx : xs[j]? = some x) (ho : objB S x = false) : DelAt S xs g i (j + 1) cap w := by
  obtain ⟨cur, h1, h2, h3, h4, h5⟩ := h
  have e : objL S (xs.take (j + 1)) = objL S (xs.take j) := by rw [objL_take hx, ho]; simp
  exact ⟨cur, h1, h2, by rw [e]; exact h3, by rw [e]; exact h4, fun t y ht hy => h5 t y (by omega) hy⟩
theorem DelAt.put {S : SchT} {xs : List ByteArray} {g i j cap : Nat} {w : World} {x : ByteArray} (h : DelAt S xs g i j cap w) (hx : xs[j]? = some x) (ho : objB S x = true) (hic : i < cap) (hij : i ≤ j) : DelAt S xs g (i + 1) (j + 1) cap (w.setCell ⟨g, i, none⟩ (.string x)) := by
  obtain ⟨cur, h1, h2, h3, h4, h5⟩ := h
  have e : objL S (xs.take (j + 1)) = objL S (xs.take j) ++ [x] := by rw [objL_take hx, ho]; simp
  refine ⟨cur.setIfInBounds i (.string x), ?_, by simp [h2], by rw [e, List.length_append, h3]; rfl, fun t y hy => ?_, fun t y ht hy => ?_⟩
  · simp only [World.setCell, Array.getElem?_modify, h1]
    simp
  · rw [e] at hy
    by_cases ht : t < i
    · rw [List.getElem?_append_left (by omega)] at hy
      rw [Array.getElem?_setIfInBounds_ne (by omega)]
      exact h4 t y hy
    · rw [List.getElem?_append_right (by omega)] at hy
      have : t = i := by
        have := (List.getElem?_eq_some_iff.1 hy).1
        simp at this
        omega
      subst this
      rw [h3, Nat.sub_self] at hy
      have : x = y := by simpa using hy
      subst this
      simp [h2, hic]
  · rw [Array.getElem?_setIfInBounds_ne (by omega)]
    exact h5 t y (by omega) hy
/-- A row that is answered, of whatever block above. -/
def RowR (base : Nat) (xs : List ByteArray) (w : World) (e : Ending) (w' : World) : Prop := ∃ A c, e = .returned (.slice A xs.length c) ∧ Blk.StrsAt w' w'.heap.size A xs.length xs ∧ Below base w w'
theorem DelAt.start {S : SchT} {base : Nat} {w w1 : World} {A : Option Addr} {c : Nat} {xs : List ByteArray} {j : Nat} {x : ByteArray} (h : SR base w (.slice A xs.length c) xs) (hb : Below w.heap.size w w1) (hx : xs[j]? = some x) (ho : objB S x = false) (hall : ∀ y, y ∈ xs.take j → objB S y = true) :
    ∃ g, A = some ⟨g, 0, none⟩ ∧ base ≤ g ∧ xs.length ≤ c ∧ DelAt S xs g j (j + 1) c w1 := by
  have hj : j < xs.length := (List.getElem?_eq_some_iff.1 hx).1
  rcases h.2 with ⟨_, h0⟩ | ⟨g, cap, cur, e, hbg, hg, hnc, hm, hcs, htk⟩
  · omega
  · injection e with e1 e2 e3
    subst e1 e3
    have hlt : g < w.heap.size := (Array.getElem?_eq_some_iff.1 hg).1
    have e : objL S (xs.take (j + 1)) = xs.take j := by rw [objL_take hx, ho, objL_all hall]; simp
    have hcell : ∀ (t : Nat) y, xs[t]? = some y → cur[t]? = some (.string y) := fun t y hy => by
      have ht : t < xs.length := (List.getElem?_eq_some_iff.1 hy).1
      have h1 : (cur.toList.take (xs.length * 1))[t]? = (xs.map Value.string)[t]? := by rw [htk]
      rw [List.getElem?_take, if_pos (by omega), List.getElem?_map, hy] at h1
      simpa using h1
    refine ⟨g, rfl, hbg, hnc, cur, (hb.block _ hlt).trans hg, by rw [hcs, Nat.mul_one], by rw [e, List.length_take]; omega, fun t y hy => ?_, fun t y _ hy => hcell t y hy⟩
    rw [e] at hy
    have hy2 := hy
    rw [List.getElem?_take] at hy
    split at hy
    · exact hcell t y hy
    · cases hy
theorem RowS.row {xs : List ByteArray} {w : World} {e : Ending} {w' : World} (h : RowS xs w e w') : RowR w.heap.size xs w e w' := by
  obtain ⟨V, rfl, h1, h2⟩ := h
  obtain ⟨A, c, rfl, h3⟩ := h1.strs
  exact ⟨A, c, rfl, h3, h2⟩
end Go.Proofs.YtcfdfgbobnocnaaGreatDoor
namespace Go.Proofs.YtcfdfgbobnocnaaGreatDoor
open Go.RowKit

/-- No row is longer than memory may hold. -/
def SlimF (f : FieldT) : Prop := f.params.length * 136 ≤ 140737488355328 ∧ f.dirs.length * 40 ≤ 140737488355328 ∧ ∀ x, x ∈ f.dirs → x.2.len * 96 ≤ 140737488355328
def SlimD (d : DefnT) : Prop := d.faces.length * 16 ≤ 140737488355328 ∧ d.fields.length * 96 ≤ 140737488355328 ∧ d.parts.length * 16 ≤ 140737488355328 ∧ d.params.length * 136 ≤ 140737488355328 ∧ ∀ f, f ∈ d.fields → SlimF f
def SlimS (S : SchT) : Prop := S.defs.length * 120 ≤ 140737488355328 ∧ ∀ d, d ∈ S.defs → SlimD d
theorem slim_none (k : Int) (n : ByteArray) : SlimD ⟨k, n, [], [], [], []⟩ := ⟨by simp, by simp, by simp, by simp, fun f h => by simp at h⟩
theorem findL_mem {l : List DefnT} {n : ByteArray} : (findL l n).1 ∈ l ∨ (findL l n).1 = zeroD := by
  induction l with
  | nil => exact .inr rfl
  | cons d t ih =>
    rw [findL]
    split
    · exact .inl (List.mem_cons_self ..)
    · rcases ih with h | h
      · exact .inl (List.mem_cons_of_mem _ h)
      · exact .inr h
theorem find_slim {l : List DefnT} (h : ∀ d, d ∈ l → SlimD d) (n : ByteArray) : SlimD (findD l n).1 := by
  unfold findD
  split
  · exact slim_none _ _
  · rcases findL_mem (l := l) (n := n) with e | e
    · exact h _ e
    · rw [e]; exact slim_none _ _
/-- All names of definitions are texts. -/
theorem defs_bd {w : World} {P : Nat → Prop} : ∀ {l : List DefnT} {A : Option Addr}, RowT w P (rowOf encDefn l) A → ∀ d, d ∈ l → d.name.size ≤ 9223372036854775807 ∧ StrB d.faces ∧ StrB d.parts
  | [], _, _ => fun d h => by simp at h
  | a :: t, A, h => fun d hd => by
    rw [rowOf] at h
    unfold RowT at h
    obtain ⟨b, o, cs, _, _, _, h1, h2⟩ := h
    rcases List.mem_cons.1 hd with rfl | hd
    · obtain ⟨Af, kf, Ax, kx, Ap, kp, Am, km, _, hz, ⟨_, hf⟩, _, ⟨_, hp⟩, _⟩ := defn_cells h1
      exact ⟨hz, str_bd hf, str_bd hp⟩
    · exact defs_bd h2 d hd
theorem bearers_bd {l : List DefnT} {f : ByteArray} (h : ∀ d, d ∈ l → d.name.size ≤ 9223372036854775807) : StrB (bearersL l f) := by
  induction l with
  | nil => intro s hs; simp [bearersL] at hs
  | cons a t ih =>
    have ih := ih (fun d hd => h d (List.mem_cons_of_mem _ hd))
    intro s hs
    rw [bearersL] at hs
    split at hs
    · rcases List.mem_cons.1 hs with rfl | hs
      · exact h a (List.mem_cons_self ..)
      · exact ih s hs
    · exact ih s hs
theorem adds_mem : ∀ (l out : List ByteArray) (s : ByteArray), s ∈ l.foldl addN out → s ∈ out ∨ s ∈ l
  | [], out, s, h => .inl h
  | a :: t, out, s, h => by
    rw [List.foldl_cons] at h
    rcases adds_mem t _ s h with h1 | h1
    · unfold addN at h1
      split at h1
      · exact .inl h1
      · rcases List.mem_append.1 h1 with h2 | h2
        · exact .inl h2
        · simp at h2; subst h2; exact .inr (List.mem_cons_self ..)
    · exact .inr (List.mem_cons_of_mem _ h1)
theorem once_mem {xs : List ByteArray} {s : ByteArray} (h : s ∈ onceL xs) : s ∈ xs := by
  rcases adds_mem xs [] s h with h | h
  · simp at h
  · exact h
theorem once_bd {xs : List ByteArray} (h : StrB xs) : StrB (onceL xs) := fun s hs => h s (once_mem hs)
/-- What is possible for a name. -/
def possL (S : SchT) (n : ByteArray) : List ByteArray :=
  if (findD S.defs n).2 = true then
    (if ((findD S.defs n).1.kind == 1) = true then [n] else if ((findD S.defs n).1.kind == 2) = true then onceL (bearersL S.defs n) else if ((findD S.defs n).1.kind == 3) = true then objL S (onceL (findD S.defs n).1.parts) else [])
  else []
theorem poss_bd {S : SchT} {n : ByteArray} {w : World} {P : Nat → Prop} {cs : List Value} (hn : n.size ≤ 9223372036854775807) (hS : TS w P (encSch S) cs) : StrB (possL S n) := by
  obtain ⟨A, k, _, _, hR⟩ := sch_cells hS
  have hd := defs_bd hR
  have hf : StrB (findD S.defs n).1.parts := by
    unfold findD
    split
    · intro s hs; simp at hs
    · rcases findL_mem (l := S.defs) (n := n) with e | e
      · exact (hd _ e).2.2
      · rw [e]; intro s hs; simp [zeroD] at hs
  unfold possL
  split
  · split
    · intro s hs
      have : s = n := by simpa using hs
      rw [this]; exact hn
    · split
      · exact once_bd (bearers_bd (fun d h => (hd d h).1))
      · split
        · exact fun s hs => once_bd hf s (List.mem_filter.1 hs).1
        · intro s hs; simp at hs
  · intro s hs; simp at hs
theorem strs_lit {w : World} {n : ByteArray} {t : TypeId} : Blk.StrsAt (w.alloc (.cells #[.string n] t)) (w.heap.size + 1) (some ⟨w.heap.size, 0, none⟩) 1 [n] := by
  refine ⟨rfl, fun j x hx => ⟨_, _, rfl, Nat.lt_succ_self _, ?_⟩⟩
  have h0 : j = 0 := by have := (List.getElem?_eq_some_iff.1 hx).1; simp at this; exact this
  subst h0
  have : n = x := by simpa using hx
  subst this
  rw [Nat.add_zero, World.cell?_alloc_at _ _ _ _ rfl]
  rfl
theorem strs_lit2 {w : World} {n : ByteArray} {t : TypeId} {g : Nat} (hg : w.heap.size = g) : Blk.StrsAt (w.alloc (.cells #[.string n] t)) (w.alloc (.cells #[.string n] t)).heap.size (some ⟨g, 0, none⟩) 1 [n] := by subst hg; exact strs_lit.more (by simp)
end Go.Proofs.YtcfdfgbobnocnaaGreatDoor
