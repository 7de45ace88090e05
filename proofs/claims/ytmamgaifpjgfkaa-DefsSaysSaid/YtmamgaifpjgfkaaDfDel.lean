/- slices.DeleteFunc over the closure of defs.Possible. -/
import Derived.Test.YtmamgaifpjgfkaaDfPos
namespace Go.Proofs.Ytmamgaifpjgfkaa
open Go.RowKit

theorem low_setCells {B : Nat} {a : World} (b : Nat) (hb : B ≤ b) : ∀ (vs : List Value) (o : Nat) {w : World}, Below B a w → Below B a (w.setCells b o vs)
  | [], _, _, h => h
  | v :: r, o, _, h => low_setCells b hb r (o + 1) (h.setCell (p := ⟨b, o, none⟩) hb v)
/-- The Objects' names. -/
def objL (S : SchT) (xs : List ByteArray) : List ByteArray := xs.filter (objB S)
theorem objL_all {S : SchT} {xs : List ByteArray} (h : ∀ x, x ∈ xs → objB S x = true) : objL S xs = xs := List.filter_eq_self.2 h
theorem objL_take {S : SchT} {xs : List ByteArray} {k : Nat} {x : ByteArray} (h : xs[k]? = some x) : objL S (xs.take (k + 1)) = objL S (xs.take k) ++ (if objB S x = true then [x] else []) := by
  unfold objL
  rw [List.take_add_one, h, List.filter_append]
  congr 1
  simp only [Option.toList_some, List.filter_cons, List.filter_nil]
theorem objL_len (S : SchT) (xs : List ByteArray) : (objL S xs).length ≤ xs.length := List.length_filter_le _ _
/-- The row while it is gone through: what stays lies in front, what is still to be looked at where it was. -/
def DelAt (S : SchT) (xs : List ByteArray) (g i j cap : Nat) (w : World) : Prop :=
  ∃ cur : Array Value, w.heap[g]? = some (.cells cur 9 (0, 0)) ∧ cur.size = cap ∧ (objL S (xs.take j)).length = i ∧ (∀ (t : Nat) x, (objL S (xs.take j))[t]? = some x → cur[t]? = some (.string x)) ∧ ∀ (t : Nat) x, j ≤ t → xs[t]? = some x → cur[t]? = some (.string x)
theorem DelAt.low {S : SchT} {xs : List ByteArray} {g i j cap K : Nat} {w w' : World} (h : DelAt S xs g i j cap w) (hb : Below K w w') (hg : g < K) : DelAt S xs g i j cap w' := by
  obtain ⟨cur, h1, h2⟩ := h
  exact ⟨cur, (hb.block _ hg).trans h1, h2⟩
theorem DelAt.lt {S : SchT} {xs : List ByteArray} {g i j cap : Nat} {w : World} (h : DelAt S xs g i j cap w) : g < w.heap.size := by
  obtain ⟨cur, h1, _⟩ := h
  exact (Array.getElem?_eq_some_iff.1 h1).1
theorem cells_get {w : World} {g : Nat} {cur : Array Value} {t : TypeId} (h : w.heap[g]? = some (.cells cur t (0, 0))) (i : Nat) : w.cell? ⟨g, i, none⟩ = cur[i]? := by
  simp [World.cell?, h]
theorem cells_frozen {w : World} {g : Nat} {cur : Array Value} {t : TypeId} (h : w.heap[g]? = some (.cells cur t (0, 0))) (i : Nat) : w.frozen? ⟨g, i, none⟩ = false := by
  simp [World.frozen?, h]
theorem DelAt.skip {S : SchT} {xs : List ByteArray} {g i j cap : Nat} {w : World} {x : ByteArray} (h : DelAt S xs g i j cap w) (hx : xs[j]? = some x) (ho : objB S x = false) : DelAt S xs g i (j + 1) cap w := by
  obtain ⟨cur, h1, h2, h3, h4, h5⟩ := h
  have e : objL S (xs.take (j + 1)) = objL S (xs.take j) := by rw [objL_take hx, ho]; simp
  exact ⟨cur, h1, h2, by rw [e]; exact h3, by rw [e]; exact h4, fun t y ht hy => h5 t y (by omega) hy⟩
theorem DelAt.put {S : SchT} {xs : List ByteArray} {g i j cap : Nat} {w : World} {x : ByteArray} (h : DelAt S xs g i j cap w) (hx : xs[j]? = some x) (ho : objB S x = true) (hic : i < cap) (hij : i ≤ j) : DelAt S xs g (i + 1) (j + 1) cap (w.setCell ⟨g, i, none⟩ (.string x)) := by
  obtain ⟨cur, h1, h2, h3, h4, h5⟩ := h
  have e : objL S (xs.take (j + 1)) = objL S (xs.take j) ++ [x] := by rw [objL_take hx, ho]; simp
  refine ⟨cur.setIfInBounds i (.string x), ?_, by simp [h2], by rw [e, List.length_append, h3]; rfl, fun t y hy => ?_, fun t y ht hy => ?_⟩
  · simp only [World.setCell, Array.getElem?_modify, h1]
    simp
  · rw [e] at hy
    by_cases ht : t < i
    · rw [List.getElem?_append_left (by omega)] at hy
      rw [Array.getElem?_setIfInBounds_ne (by omega)]
      exact h4 t y hy
    · rw [List.getElem?_append_right (by omega)] at hy
      have : t = i := by
        have := (List.getElem?_eq_some_iff.1 hy).1
        simp at this
        omega
      subst this
      rw [h3, Nat.sub_self] at hy
      have : x = y := by simpa using hy
      subst this
      simp [h2, hic]
  · rw [Array.getElem?_setIfInBounds_ne (by omega)]
    exact h5 t y (by omega) hy
/-- A row that is answered, of whatever block above. -/
def RowR (base : Nat) (xs : List ByteArray) (w : World) (e : Ending) (w' : World) : Prop := ∃ A c, e = .returned (.slice A xs.length c) ∧ Blk.StrsAt w' w'.heap.size A xs.length xs ∧ Below base w w'
theorem DelAt.start {S : SchT} {base : Nat} {w w1 : World} {A : Option Addr} {c : Nat} {xs : List ByteArray} {j : Nat} {x : ByteArray} (h : SR base w (.slice A xs.length c) xs) (hb : Below w.heap.size w w1) (hx : xs[j]? = some x) (ho : objB S x = false) (hall : ∀ y, y ∈ xs.take j → objB S y = true) :
    ∃ g, A = some ⟨g, 0, none⟩ ∧ base ≤ g ∧ xs.length ≤ c ∧ DelAt S xs g j (j + 1) c w1 := by
  have hj : j < xs.length := (List.getElem?_eq_some_iff.1 hx).1
  rcases h.2 with ⟨_, h0⟩ | ⟨g, cap, cur, e, hbg, hg, hnc, hm, hcs, htk⟩
  · omega
  · injection e with e1 e2 e3
    subst e1 e3
    have hlt : g < w.heap.size := (Array.getElem?_eq_some_iff.1 hg).1
    have e : objL S (xs.take (j + 1)) = xs.take j := by rw [objL_take hx, ho, objL_all hall]; simp
    have hcell : ∀ (t : Nat) y, xs[t]? = some y → cur[t]? = some (.string y) := fun t y hy => by
      have ht : t < xs.length := (List.getElem?_eq_some_iff.1 hy).1
      have h1 : (cur.toList.take (xs.length * 1))[t]? = (xs.map Value.string)[t]? := by rw [htk]
      rw [List.getElem?_take, if_pos (by omega), List.getElem?_map, hy] at h1
      simpa using h1
    refine ⟨g, rfl, hbg, hnc, cur, (hb.block _ hlt).trans hg, by rw [hcs, Nat.mul_one], by rw [e, List.length_take]; omega, fun t y hy => ?_, fun t y _ hy => hcell t y hy⟩
    rw [e] at hy
    have hy2 := hy
    rw [List.getElem?_take] at hy
    split at hy
    · exact hcell t y hy
    · cases hy
theorem RowS.row {xs : List ByteArray} {w : World} {e : Ending} {w' : World} (h : RowS xs w e w') : RowR w.heap.size xs w e w' := by
  obtain ⟨V, rfl, h1, h2⟩ := h
  obtain ⟨A, c, rfl, h3⟩ := h1.strs
  exact ⟨A, c, rfl, h3, h2⟩
set_option maxRecDepth 100000 in
set_option maxHeartbeats 4000000 in
theorem delete_any (S : SchT) (V : Value) (xs : List ByteArray) (w : World) (B base sb : Nat) (hB : B ≤ base) (hbs : base ≤ w.heap.size) (hsb : sb < base) (hn : xs.length ≤ 9223372036854775807) (hs : StrB xs) (hV : SR base w V xs) (hC : CapS S B sb w) :
    Calls Try.prog 37 #[V, .func (.func 38) #[] #[.pointer (some ⟨sb, 0, none⟩)]] w (RowR base (objL S xs) w) := by
  obtain ⟨A, c, rfl, hA⟩ := hV.strs
  have F := fun (x : ByteArray) (hx : x ∈ xs) (wx : World) (hb : Below base w wx) => Lib.hid (pos1_any S x wx B sb (Nat.le_trans hB (Nat.le_trans hbs hb.size)) (hs x hx) (hC.low hb hB hsb))
  have I0 := Lib.hid (indexf_any S A xs.length c xs w B sb (Nat.le_trans hB hbs) hn hs hA hC)
  have HV := Lib.hid hV
  have HA := Lib.hid hA
  have HBS := Lib.hid hbs
  clear hV hA hC hs hbs
  go_enter Try.func37, Try.ntmps37
  go_wp2_with fail
  refine I0.out.mono ?_
  rintro e w1 ⟨k, rfl, hk, hb1⟩
  have B1 := Lib.hid hb1
  rcases hk with ⟨rfl, hall⟩ | ⟨j0, rfl, ⟨x0, hx0, ho0⟩, hall⟩
  · have HALL := Lib.hid (objL_all hall)
    clear hall hb1 F
    go_wp2_with fail
    go_ret
    refine ⟨A, c, by rw [HALL.out]; rfl, ?_, B1.out.mono HBS.out⟩
    rw [HALL.out]
    exact (HA.out.below B1.out).more B1.out.size
  · obtain ⟨g0, rfl, hbg, hlc, hD⟩ := DelAt.start HV.out hb1 hx0 ho0 hall
    have hj0 : j0 < xs.length := (List.getElem?_eq_some_iff.1 hx0).1
    have HD := Lib.hid hD
    have e1 : ((j0 : Int) == -1) = false := by rw [beq_eq_false_iff_ne]; omega
    have HBG := Lib.hid hbg
    clear hall hb1 hx0 ho0 hD hbg I0 HA HV
    go_wp2_with fail
    go_loopg [5, 6] (xs.length - (j0 + 1)) (fun gk i j wx => ∃ p q : Nat, q + gk = xs.length ∧ p < q ∧ i = .int .i64 p ∧ j = .int .i64 q ∧ Aside (DelAt S xs g0 p q c wx ∧ Below base w wx))
    case atStart => exact ⟨j0, j0 + 1, by omega, by omega, rfl, by go_num, Blk.Aside.intro ⟨HD.out, B1.out.mono HBS.out⟩⟩
    case round =>
      obtain ⟨p, q, hq, hpq, rfl, rfl, HX⟩ := hrel
      obtain ⟨hD, hb⟩ := HX.out
      have HDX := Lib.hid hD
      have HBB := Lib.hid hb
      clear HX hb hD HD
      cases gk with
      | zero =>
        obtain rfl : q = xs.length := by omega
        obtain ⟨cur, h1, h2, h3, h4, h5⟩ := HDX.out
        rw [List.take_length] at h3 h4
        have hcl : ∀ ty, (Builtin.clear_ #[28] ty #[.slice (some ⟨g0, p, none⟩) (xs.length - p) (c - p)]).run Try.prog wr = .ok (.tuple #[]) (wr.setCells g0 p (List.replicate (xs.length - p) (.string ⟨#[]⟩))) :=
          fun ty => Lib.run_clear_slice wr 28 9 ty (.string ⟨#[]⟩) Try.underlying28 (fun _ => rfl) rfl rfl g0 p (xs.length - p) (c - p) (by omega) (fun t ht => by rw [cells_get h1]; simp; omega) (fun t _ => cells_frozen h1 _)
        have HE := Lib.hid (And.intro h1 (And.intro h3 h4))
        have hpc : p ≤ c := by omega
        have hpn : p ≤ xs.length := by omega
        have hpc' : ¬ c = p := by omega
        have hpc2 : ¬ c - p = 0 := by omega
        clear h1 h2 h3 h4 h5 F
        go_wp2_with fail
        go_ret
        obtain ⟨h1, h3, h4⟩ := HE.out
        have hlt : g0 < wr.heap.size := HDX.out.lt
        have BS := low_setCells (B := base) g0 HBG.out (List.replicate (xs.length - p) (.string ⟨#[]⟩)) p HBB.out
        have BS2 := (low_setCells (B := g0) g0 (Nat.le_refl _) (List.replicate (xs.length - p) (.string ⟨#[]⟩)) p (Below.refl g0 wr)).size
        refine ⟨some ⟨g0, 0, none⟩, c, by rw [h3]; rfl, ⟨rfl, fun t y hy => ⟨g0, 0, rfl, Nat.lt_of_lt_of_le hlt BS2, ?_⟩⟩, BS⟩
        have ht : t < p := by have := (List.getElem?_eq_some_iff.1 hy).1; omega
        rw [World.cell?_setCells_out g0 _ p wr _ (fun _ _ => .inl (by show 0 + t < p; omega)), Nat.zero_add]
        exact (cells_get h1 t).trans (h4 t y hy)
      | succ g =>
        have hqn : q < xs.length := by omega
        have hqn' : (q : Int) < (xs.length : Int) := by omega
        obtain ⟨x, hx⟩ : ∃ x, xs[q]? = some x := ⟨_, List.getElem?_eq_getElem hqn⟩
        have hF := F x (List.mem_of_getElem? hx) wr HBB.out
        obtain ⟨cur, h1, h2, h3, h4, h5⟩ := HDX.out
        have c1 : wr.cell? ⟨g0, q, none⟩ = some (.string x) := (cells_get h1 q).trans (h5 q x (Nat.le_refl _) hx)
        have HX := Lib.hid hx
        clear h1 h2 h3 h4 h5 hx F
        cases ho : objB S x with
        | true =>
          rw [ho] at hF
          have HO := Lib.hid ho
          clear ho
          go_wp2_with fail
          refine hF.out.mono ?_
          rintro e w2 ⟨rfl, hb2⟩
          have B2 := Lib.hid hb2
          have D2 := Lib.hid (HDX.out.low hb2 HDX.out.lt)
          obtain ⟨cur, h1, h2, h3, h4, h5⟩ := D2.out
          have f1 : w2.cell? ⟨g0, p, none⟩ = some cur[p]! := by rw [cells_get h1, getElem!_pos cur p (by omega), Array.getElem?_eq_getElem (by omega)]
          have f2 := cells_frozen h1 p
          clear hb2 hF c1 h1 h3 h4 h5 h2
          go_wp2_with fail
          go_roundg g
          case measure => omega
          case rel => exact ⟨p + 1, q + 1, by omega, by omega, by go_num, by go_num, Blk.Aside.intro ⟨D2.out.put HX.out HO.out (by omega) (by omega), (HBB.out.trans (B2.out.mono (Nat.le_trans HBS.out HBB.out.size))).setCell HBG.out _⟩⟩
        | false =>
          rw [ho] at hF
          have HO := Lib.hid ho
          clear ho
          go_wp2_with fail
          refine hF.out.mono ?_
          rintro e w2 ⟨rfl, hb2⟩
          have B2 := Lib.hid hb2
          have D2 := Lib.hid (HDX.out.low hb2 HDX.out.lt)
          clear hb2 hF c1
          go_wp2_with fail
          go_roundg g
          case measure => omega
          case rel => exact ⟨p, q + 1, by omega, by omega, rfl, by go_num, Blk.Aside.intro ⟨D2.out.skip HX.out HO.out, HBB.out.trans (B2.out.mono (Nat.le_trans HBS.out HBB.out.size))⟩⟩
end Go.Proofs.Ytmamgaifpjgfkaa
