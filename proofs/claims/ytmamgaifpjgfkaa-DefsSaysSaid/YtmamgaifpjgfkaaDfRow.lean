/- defs.bearers and defs.once: rows of names that grow. -/
import Derived.Test.YtmamgaifpjgfkaaDfFind
import Derived.Test.YtmamgaifpjgfkaaVCopy
import Derived.Maps.Own
import Derived.Maps.Views
import Derived.Deep.AppendLies
import Derived.Laws.EntriesVeiled
namespace Go.Proofs.Ytmamgaifpjgfkaa
open Go.RowKit

/-- A row of texts of one's own. -/
def SR (base : Nat) (W : World) (V : Value) (xs : List ByteArray) : Prop := W.ownsRow base 9 1 V xs.length (xs.map .string)
theorem SR.nil (base : Nat) (W : World) : SR base W (.slice none 0 0) [] := World.ownsRow_nil _ _ _ _
theorem SR.low {base : Nat} {W W' : World} {V : Value} {xs : List ByteArray} (h : SR base W V xs) (hb : Below W.heap.size W W') : SR base W' V xs := own_low h hb
theorem SR.strs {base : Nat} {W : World} {V : Value} {xs : List ByteArray} (h : SR base W V xs) : ∃ A c, V = .slice A xs.length c ∧ Blk.StrsAt W W.heap.size A xs.length xs := by
  obtain ⟨A, c, e⟩ := Blk.own_form h
  subst e
  exact ⟨A, c, rfl, (Blk.strs_of_own h).2⟩
theorem SR.mono {B B' : Nat} {w : World} {V : Value} {xs : List ByteArray} (h : SR B w V xs) (hb : B' ≤ B) : SR B' w V xs := by
  obtain ⟨h0, h1⟩ := h
  refine ⟨h0, ?_⟩
  rcases h1 with h1 | ⟨g, cap, cur, a1, a2, a3⟩
  · exact .inl h1
  · exact .inr ⟨g, cap, cur, a1, Nat.le_trans hb a2, a3⟩
theorem info_parts1 {t : TypeId} {z : Value} {s b : Nat} (h : (Try.prog.info? t).map (fun i => (i.zero, i.size, i.bytes)) = some (some z, s, b)) : ∃ i, Try.prog.info? t = some i ∧ i.zero = some z ∧ i.size = s ∧ i.bytes = b := by
  cases hi : Try.prog.info? t with
  | none => rw [hi] at h; cases h
  | some i => rw [hi] at h; simp at h; exact ⟨i, rfl, h.1, h.2.1, h.2.2⟩
theorem info_txt : (Try.prog.info? 9).map (fun i => (i.zero, i.size, i.bytes)) = some (some (.string ⟨#[]⟩), 1, 16) := by kernel_rfl
theorem below_grown {B : Nat} {w w1 w2 : World} {k : Option Nat} (h : Below B w w1) (hg : w1.grownBy w2 k) (hB : B ≤ w1.heap.size) (hk : ∀ b, k = some b → B ≤ b) : Below B w w2 :=
  ⟨hg.os.trans h.os, hg.tape.trans h.tape, hg.output.trans h.output, Nat.le_trans h.size hg.size, fun i hi => (hg.block i (by omega) (fun e => by have := hk i e.symm; omega)).trans (h.block i hi)⟩
theorem SR.own {base : Nat} {w : World} {V : Value} {xs : List ByteArray} (h : SR base w V xs) : ∀ b, V.ownBlock = some b → base ≤ b := fun b hb => (World.ownsRow.lt h b hb).1

/-- The names of those Objects that have the Face. -/
def bearsB (d : DefnT) (f : ByteArray) : Bool := d.kind == 1 && hasN d.faces f
def bearersL : List DefnT → ByteArray → List ByteArray
  | [], _ => []
  | d :: t, f => if bearsB d f = true then d.name :: bearersL t f else bearersL t f
theorem bearers_snoc (l : List DefnT) (d : DefnT) (f : ByteArray) : bearersL (l ++ [d]) f = bearersL l f ++ (if bearsB d f = true then [d.name] else []) := by
  induction l with
  | nil =>
    show bearersL [d] f = [] ++ _
    unfold bearersL bearersL
    split <;> rfl
  | cons a t ih => rw [List.cons_append, bearersL, bearersL, ih]; split <;> rfl
theorem bearers_len (l : List DefnT) (f : ByteArray) : (bearersL l f).length ≤ l.length := by
  induction l with
  | nil => exact Nat.le_refl _
  | cons a t ih => rw [bearersL]; split <;> simp <;> omega
theorem bearers_take {l : List DefnT} {q : Nat} {d : DefnT} (f : ByteArray) (h : l[q]? = some d) : bearersL (l.take (q + 1)) f = bearersL (l.take q) f ++ (if bearsB d f = true then [d.name] else []) := by
  rw [List.take_add_one, h]
  exact bearers_snoc _ _ _
/-- What is answered: a row of one's own. -/
def RowS (xs : List ByteArray) (w : World) (e : Ending) (w' : World) : Prop := ∃ V, e = .returned V ∧ SR w.heap.size w' V xs ∧ Below w.heap.size w w'
set_option maxRecDepth 100000 in
set_option maxHeartbeats 4000000 in
theorem bearers_any (S : SchT) (f : ByteArray) (c0 c1 c2 : Value) (w : World) (B : Nat) (hB : B ≤ w.heap.size) (hz : S.defs.length * 16 ≤ 140737488355328) (hS : TS w (fun b => b < B) (encSch S) [c0, c1, c2]) :
    Calls Try.prog 36 #[.agg #[c0, c1, c2], .string f] w (RowS (bearersL S.defs f) w) := by
  obtain ⟨i0, hi, hz0, hz1, hz2⟩ := info_parts1 info_txt
  obtain ⟨A, k, e, hl, hR⟩ := sch_cells hS
  injection e with e0 e
  injection e with e1 e
  injection e with e2 e
  subst e0 e1 e2
  obtain ⟨l, el⟩ : ∃ l, S.defs = l := ⟨_, rfl⟩
  have B0 := Lib.hid (dbelow_new w (.cells #[.slice A S.defs.length k, .string S.query, .string S.mutation] 24))
  rw [el] at hl hR hz B0 ⊢
  have HB0 := Lib.hid hB
  have HR := Lib.hid hR
  have HZ := Lib.hid hz
  clear hB hS hR e el hz
  go_enter Try.func36, Try.ntmps36
  go_wp2_with fail
  go_loopg [5, 11] l.length (fun g out i wx => ∃ q : Nat, q + g = l.length ∧ i = .int .i64 q ∧ Aside (SR w.heap.size wx out (bearersL (l.take q) f) ∧ Below w.heap.size w wx))
  case atStart => exact ⟨0, by omega, rfl, Blk.Aside.intro ⟨by rw [List.take_zero]; exact SR.nil _ _, B0.out⟩⟩
  case round =>
    obtain ⟨q, hq, rfl, HA⟩ := hrel
    obtain ⟨hO, hb⟩ := HA.out
    have HO := Lib.hid hO
    have HBB := Lib.hid hb
    clear HA hO hb
    cases gk with
    | zero =>
      obtain rfl : q = l.length := by omega
      have hE : Hid (SR w.heap.size wr u5 (bearersL l f)) := Lib.hid (by have := HO.out; rwa [List.take_length] at this)
      clear HO
      go_wp2_with fail
      go_ret
      exact ⟨_, rfl, hE.out, HBB.out⟩
    | succ g =>
      have hqn : q < l.length := by omega
      have hqn' : (q : Int) < (l.length : Int) := by omega
      obtain ⟨d, hd⟩ : ∃ x, l[q]? = some x := ⟨_, List.getElem?_eq_getElem hqn⟩
      obtain ⟨b, p, d0, d1, d2, d3, d4, d5, rfl, hlt, ⟨g0, g1, g2, g3, g4, g5⟩, hT⟩ := defn_at (RowT.below (HBB.out.mono HB0.out) HR.out) hd
      obtain ⟨Af, kf, Ax, kx, Ap, kp, Am, km, e, hns, ⟨hlf, hrf⟩, _⟩ := defn_cells hT
      simp only [List.cons.injEq, and_true] at e
      obtain ⟨rfl, rfl, rfl, rfl, rfl, rfl⟩ := e
      have hN := Lib.hid (bearers_take f hd)
      have hlt' : b < wr.heap.size := Nat.lt_of_lt_of_le hlt (Nat.le_trans HB0.out HBB.out.size)
      have hx := heap_alloc_new wr (.cells #[.int .i64 d.kind, .string d.name, .slice Af d.faces.length kf, .slice Ax d.fields.length kx, .slice Ap d.parts.length kp, .slice Am d.params.length km] 32)
      have BX := Lib.hid (dbelow_new wr (.cells #[.int .i64 d.kind, .string d.name, .slice Af d.faces.length kf, .slice Ax d.fields.length kx, .slice Ap d.parts.length kp, .slice Am d.params.length km] 32))
      have hsz : Hid (wr.heap.size + 1 = (wr.alloc (.cells #[.int .i64 d.kind, .string d.name, .slice Af d.faces.length kf, .slice Ax d.fields.length kx, .slice Ap d.parts.length kp, .slice Am d.params.length km] 32)).heap.size) := Lib.hid (by simp)
      have hC := Lib.hid (contains_s Af d.faces.length kf d.faces f (wr.alloc (.cells #[.int .i64 d.kind, .string d.name, .slice Af d.faces.length kf, .slice Ax d.fields.length kx, .slice Ap d.parts.length kp, .slice Am d.params.length km] 32)) hlf (((str_row hrf).below (BX.out.mono (Nat.le_trans HB0.out HBB.out.size))).more (Nat.le_trans HB0.out (Nat.le_trans HBB.out.size BX.out.size))))
      clear hT hd hlt hrf hlf
      cases e1 : (d.kind == 1) with
      | false =>
        have hbe : Hid (bearersL (l.take (q + 1)) f = bearersL (l.take q) f) := Lib.hid (by rw [hN.out]; unfold bearsB; rw [e1]; simp)
        clear hx hC
        go_wp2_with fail
        go_roundg g
        case measure => omega
        case rel => exact ⟨q + 1, by omega, by go_num, Blk.Aside.intro ⟨by rw [hbe.out]; exact HO.out.low BX.out, HBB.out.trans (BX.out.mono HBB.out.size)⟩⟩
      | true =>
        go_upto_region 5 with fail
        generalize (wr.alloc (.cells #[.int .i64 d.kind, .string d.name, .slice Af d.faces.length kf, .slice Ax d.fields.length kx, .slice Ap d.parts.length kp, .slice Am d.params.length km] 32)) = wz at hx BX hC hsz ⊢
        obtain ⟨⟨y0, y1, y2, y3, y4, y5⟩, _⟩ := six_cells hx
        clear g0 g1 g2 g3 g4 g5 hx
        go_wp2_with fail
        refine hC.out.mono ?_
        rintro e w3 ⟨rfl, hb3⟩
        have B3 := Lib.hid (BX.out.trans (hb3.mono BX.out.size))
        have hlw : wr.heap.size < wz.heap.size := by rw [← hsz.out]; exact Nat.lt_succ_self _
        have z1 := (hb3.cell (p := ⟨wr.heap.size, 1, none⟩) hlw).trans y1
        have hs3 := hb3.size
        clear y0 y1 y2 y3 y4 y5 hb3 hC
        cases e2 : hasN d.faces f with
        | false =>
          have hbe : Hid (bearersL (l.take (q + 1)) f = bearersL (l.take q) f) := Lib.hid (by rw [hN.out]; unfold bearsB; rw [e1, e2]; simp)
          clear z1
          go_wp2_with fail
          go_roundg g
          case measure => omega
          case rel => exact ⟨q + 1, by omega, by go_num, Blk.Aside.intro ⟨by rw [hbe.out]; exact HO.out.low B3.out, HBB.out.trans (B3.out.mono HBB.out.size)⟩⟩
        | true =>
          have hbe : Hid (bearersL (l.take (q + 1)) f = bearersL (l.take q) f ++ [d.name]) := Lib.hid (by rw [hN.out]; unfold bearsB; rw [e1, e2]; simp)
          have hlb : (bearersL (l.take q) f).length ≤ q := Nat.le_trans (bearers_len _ _) (by simp; omega)
          obtain ⟨Ao, co, rfl, _⟩ := HO.out.strs
          have O3 := Lib.hid ((HO.out.low B3.out).low (dbelow_new w3 (.cells #[.string d.name] 9)))
          have hZ := HZ.out
          have hso := HBB.out.size
          go_wp2_with (at_builtin; refine wpList_append_lies _ rfl _ _ 28 rfl w.heap.size 9 i0 (.string ⟨#[]⟩) 1 16 Try.underlying28 hi hz0 hz1 hz2 rfl (by decide) _ (bearersL (l.take q) f).length ((bearersL (l.take q) f).map .string) rfl O3.out _ 1 1 [.string d.name] rfl rfl (fun j u hj => World.news_of_block (heap_alloc_new _ _) j u hj) (by intro y hy; simp at hy; rcases hy with rfl <;> rfl) (by decide) (by unfold maxLen; omega) (by omega) (by simp; omega) _ rfl ?_; intro gg cap2 w4 hown4 hgrow hat hlt4; have HG4 := Lib.hid hgrow; have HO4 := Lib.hid hown4; have HT4 := Lib.hid hat; clear hgrow hown4 hat)
          have B4 := Lib.hid (below_grown (B := w.heap.size) ((HBB.out.trans (B3.out.mono HBB.out.size)).alloc (Nat.le_trans HBB.out.size B3.out.size) (.cells #[.string d.name] 9)) HG4.out (by simp; omega) (fun b hb => HO.out.own b hb))
          go_roundg g
          case measure => omega
          case rel => exact ⟨q + 1, by omega, by go_num, Blk.Aside.intro ⟨by rw [hbe.out]; unfold SR; rw [List.length_append, List.map_append]; exact HO4.out, B4.out⟩⟩
theorem plain_bool_inv {P : Program} {e : TypeId} (he : P.underlying e = some .bool) {v : Value} {z : DataW Unit × List MemPlace} (h : plainElem P e v = some z) : ∃ x, v = .bool x ∧ z = (.lit (.bool x), []) := by
  unfold plainElem at h
  rw [he] at h
  cases v <;> simp at h
  exact ⟨_, rfl, h.symm⟩
/-- The datum holds true just for these texts. -/
def SeenD (D : DataW Unit) (out : List ByteArray) : Prop := Maps.IsMap D ∧ ∀ s : ByteArray, D.atKey (.string s.data.toList) (.lit (.bool false)) = .lit (.bool (hasN out s))
theorem SeenD.nil : SeenD (.map []) [] := ⟨Maps.isMap_empty, fun _ => rfl⟩
theorem SeenD.put {D : DataW Unit} {out : List ByteArray} (h : SeenD D out) (s : ByteArray) : SeenD (D.put (.string s.data.toList) (.lit (.bool true))) (out ++ [s]) := by
  refine ⟨h.1.put _ _, fun t => ?_⟩
  by_cases e : t.data.toList = s.data.toList
  · rw [e, Maps.atKey_put_same h.1 (by trivial)]
    have : t = s := ByteArray.ext (Array.toList_inj.1 e)
    subst this
    rw [show hasN (out ++ [t]) t = true from hasN_iff.2 (by simp)]
  · rw [Maps.atKey_put_other (fun e' => e (by injection e')), h.2 t]
    have : hasN (out ++ [s]) t = hasN out t := by
      unfold hasN
      rw [List.any_append]
      have : (s.data.toList == t.data.toList) = false := beq_eq_false_iff_ne.2 (fun e' => e e'.symm)
      simp only [List.any_cons, List.any_nil, this, Bool.or_false]
    rw [this]
set_option maxRecDepth 100000 in
theorem zero_bool (w : World) : (zeroValue 4).run Try.prog w = .ok (.bool false) w := by rfl
set_option maxRecDepth 100000 in
theorem txt_new (w : World) (s : ByteArray) (t : TypeId) {g : Nat} (hg : g = w.heap.size) : ∀ (j : Nat) u, [Value.string s][j]? = some u → (w.alloc (.cells #[.string s] t)).cell? ((⟨g, 0, none⟩ : Addr).add j) = some u := by
  subst hg
  intro j u hu
  rw [add_at, Nat.zero_add]
  match j, hu with
  | 0, hu => cases hu; rw [World.cell?_alloc_at _ _ _ _ rfl]; rfl
theorem own_or {V : Value} {g H n c k h1 : Nat} (e : (Value.slice (some ⟨g, 0, none⟩) n c).ownBlock = some k) (h : V.ownBlock = some g ∨ g = H) (hH : h1 ≤ H) : V.ownBlock = some k ∨ h1 ≤ k := by
  have e' : some g = some k := e
  injection e' with e'
  subst e'
  rcases h with h | h
  · exact .inl h
  · exact .inr (by omega)
set_option maxRecDepth 100000 in
/-- What the map says of a name. -/
theorem seen_look {g n : Nat} {w : World} {out : List ByteArray} {D : DataW Unit} (hm : w.ownsMap Try.prog 9 (plainElem Try.prog 4) g n D) (hD : SeenD D out) (s : ByteArray) (hs : s.size ≤ maxLen) :
    (Instr.lookup 79 (.map (some g)) (.string s) false).run Try.prog w = .ok (.bool (hasN out s)) w := by
  have hkey := WideMaps.keyOf_string_mk (P := Try.prog) Try.underlying9 hs
  obtain ⟨v, ps, hrun, hv⟩ := hm.lookup (Maps.string_keyed Try.underlying9) Try.underlying79 (zero_bool w) (plainElem_bool Try.underlying4 false) hkey
  obtain ⟨x, rfl, hx⟩ := plain_bool_inv Try.underlying4 hv
  have e : x = hasN out s := by
    have e1 := congrArg Prod.fst hx
    rw [hD.2 s] at e1
    injection e1 with e1
    injection e1 with e1
    exact e1.symm
  rw [hrun, e]
/-- Each name once. -/
def onceL (xs : List ByteArray) : List ByteArray := xs.foldl addN []
theorem once_take {xs : List ByteArray} {k : Nat} {x : ByteArray} (h : xs[k]? = some x) : onceL (xs.take (k + 1)) = addN (onceL (xs.take k)) x := by
  unfold onceL
  rw [List.take_add_one, h, List.foldl_append]
  rfl
theorem adds_len : ∀ (l out : List ByteArray), (l.foldl addN out).length ≤ out.length + l.length
  | [], out => by simp
  | s :: t, out => by
    rw [List.foldl_cons]
    have := adds_len t (addN out s)
    have : (addN out s).length ≤ out.length + 1 := by unfold addN; split <;> simp
    rw [List.length_cons]
    omega
theorem once_len (xs : List ByteArray) : (onceL xs).length ≤ xs.length := by
  have := adds_len xs []
  unfold onceL
  simpa using this
set_option maxRecDepth 100000 in
set_option maxHeartbeats 4000000 in
theorem once_any (A : Option Addr) (n c : Nat) (xs : List ByteArray) (w : World) (hz : n * 16 ≤ 140737488355328) (hs : StrB xs) (ha : Blk.StrsAt w w.heap.size A n xs) :
    Calls Try.prog 35 #[.slice A n c] w (RowS (onceL xs) w) := by
  obtain ⟨i0, hi, hz0, hz1, hz2⟩ := info_parts1 info_txt
  have hmm := @run_makeMap Try.prog
  have HA := Lib.hid ha
  have HS := Lib.hid hs
  have HZ := Lib.hid hz
  have B0 := Lib.hid (dbelow_new w (.map #[] 0))
  have M0 := Lib.hid (World.ownsMap_made w Try.prog 9 (plainElem (H := Unit) Try.prog 4))
  have hn : n ≤ 9223372036854775807 := by omega
  clear ha hs hz
  go_enter Try.func35, Try.ntmps35
  go_wp2_with fail
  clear hmm
  go_loopg [3, 10] n (fun g out i wx => ∃ q : Nat, q + g = n ∧ i = .int .i64 q ∧ Aside ((∃ D : DataW Unit, wx.ownsMap Try.prog 9 (plainElem Try.prog 4) w.heap.size (onceL (xs.take q)).length D ∧ SeenD D (onceL (xs.take q))) ∧ SR (w.heap.size + 1) wx out (onceL (xs.take q)) ∧ Below w.heap.size w wx ∧ w.heap.size < wx.heap.size))
  case atStart => exact ⟨0, by omega, rfl, Blk.Aside.intro ⟨⟨_, M0.out, SeenD.nil⟩, SR.nil _ _, B0.out, by simp⟩⟩
  case round =>
    obtain ⟨q, hq, rfl, HX⟩ := hrel
    obtain ⟨⟨D, hm, hD⟩, hO, hb, hlt0⟩ := HX.out
    have HO := Lib.hid hO
    have HM := Lib.hid hm
    have HD := Lib.hid hD
    have HBB := Lib.hid hb
    clear HX hO hb hm hD
    cases gk with
    | zero =>
      obtain rfl : q = n := by omega
      have hE : Hid (SR (w.heap.size + 1) wr u3 (onceL xs)) := Lib.hid (by have := HO.out; rwa [List.take_of_length_le (by rw [HA.out.1]; omega)] at this)
      clear HO HM HD
      go_wp2_with fail
      go_ret
      exact ⟨_, rfl, hE.out.mono (Nat.le_succ _), HBB.out⟩
    | succ g =>
      have hqn : q < n := by omega
      have hqn' : (q : Int) < (n : Int) := by omega
      obtain ⟨s, hx⟩ : ∃ x, xs[q]? = some x := ⟨_, List.getElem?_eq_getElem (by rw [HA.out.1]; omega)⟩
      obtain ⟨b1, o1, rfl, hl1, c1⟩ := HA.out.2 q s hx
      have c1 := (HBB.out.cell (p := ⟨b1, o1 + q, none⟩) hl1).trans c1
      have hsb := HS.out s (List.mem_of_getElem? hx)
      have hT := Lib.hid (once_take hx)
      have hkey := WideMaps.keyOf_string_mk (P := Try.prog) Try.underlying9 (s := s) (by unfold maxLen; omega)
      have lk := seen_look HM.out HD.out s (by unfold maxLen; omega)
      have hll : (onceL (xs.take q)).length ≤ q := Nat.le_trans (once_len _) (by simp; omega)
      clear hx
      cases e : hasN (onceL (xs.take q)) s with
      | true =>
        rw [e] at lk
        have hE : Hid (onceL (xs.take (q + 1)) = onceL (xs.take q)) := Lib.hid (by rw [hT.out, addN, if_pos e])
        clear hkey
        go_wp2_with fail
        go_roundg g
        case measure => omega
        case rel => exact ⟨q + 1, by omega, by go_num, Blk.Aside.intro ⟨by rw [hE.out]; exact ⟨D, HM.out, HD.out⟩, by rw [hE.out]; exact HO.out, HBB.out, hlt0⟩⟩
      | false =>
        rw [e] at lk
        have hE : Hid (onceL (xs.take (q + 1)) = onceL (xs.take q) ++ [s]) := Lib.hid (by rw [hT.out, addN, if_neg (by rw [e]; decide)])
        obtain ⟨Ao, co, rfl, _⟩ := HO.out.strs
        have HMAX : (onceL (xs.take q)).length < maxLen := by unfold maxLen; omega
        have hZ := HZ.out
        have hso := HBB.out.size
        go_wp2_with (first
          | (at_mapUpdate; refine wpList_mapUpdate_own _ rfl _ _ _ 79 rfl 9 4 (Maps.string_keyed Try.underlying9) Try.underlying79 _ w.heap.size (onceL (xs.take q)).length D rfl HM.out HMAX _ _ _ rfl rfl hkey (.lit (.bool true)) [] (plainElem_bool Try.underlying4 true) ?_; intro w1 hm1 hg1; have HM1 := Lib.hid hm1; have HG1 := Lib.hid hg1; have hs1 := hg1.size; have HR1 := Lib.hid (SR.low (World.ownsRow.kept HO.out hg1 (.inr (fun e => by have := (World.ownsRow.lt HO.out _ e).1; omega))) (dbelow_new w1 (.cells #[.string s] 9))); clear hm1 hg1)
          | (at_builtin; refine wpList_append_lies _ rfl _ _ 28 rfl (w.heap.size + 1) 9 i0 (.string ⟨#[]⟩) 1 16 Try.underlying28 hi hz0 hz1 hz2 rfl (by decide) _ (onceL (xs.take q)).length ((onceL (xs.take q)).map .string) rfl HR1.out _ 1 1 [.string s] rfl rfl (txt_new _ _ _ rfl) (by intro u hu; simp at hu; subst hu; rfl) (by decide) (by unfold maxLen; omega) (by omega) (by simp; omega) _ rfl ?_; intro g2 cap2 w2 hown2 hg2 hat2 hlt2; have HO2 := Lib.hid hown2; have HG2 := Lib.hid hg2; clear hown2 hg2 hat2))
        have hbV : ∀ b, (Value.slice Ao (onceL (xs.take q)).length co).ownBlock = some b → w.heap.size + 1 ≤ b := fun b hb => HO.out.own b hb
        have B1 := Lib.hid (below_grown (B := w.heap.size) HBB.out HG1.out HBB.out.size (fun b hb => by injection hb with hb; omega))
        have B2 := Lib.hid (below_grown (B := w.heap.size) (B1.out.alloc B1.out.size (.cells #[.string s] 9)) HG2.out (by simp; omega) (fun b hb => by have := hbV b hb; omega))
        have hs2 := HG2.out.size
        go_roundg g
        case measure => omega
        case rel => exact ⟨q + 1, by omega, by go_num, Blk.Aside.intro ⟨⟨D.put (.string s.data.toList) (.lit (.bool true)), by rw [hE.out, List.length_append]; exact (HM1.out.alloc _).kept HG2.out (fun e => by have := hbV _ e.symm; omega), by rw [hE.out]; exact HD.out.put s⟩, by rw [hE.out]; unfold SR; rw [List.length_append, List.map_append]; exact HO2.out, B2.out, by simp at hs2; omega⟩⟩
end Go.Proofs.Ytmamgaifpjgfkaa
