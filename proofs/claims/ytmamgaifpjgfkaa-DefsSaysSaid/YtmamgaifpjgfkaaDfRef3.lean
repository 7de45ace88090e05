/- The document's own Possible. -/
import Derived.Test.YtmamgaifpjgfkaaDfRef2
namespace Go.Proofs.Ytmamgaifpjgfkaa
open Go.RowKit

theorem once_bears {l : List DefnT} {q : Nat} {d : DefnT} {f : ByteArray} (h : l[q]? = some d) : onceL (bearersL (l.take (q + 1)) f) = if bearsB d f = true then addN (onceL (bearersL (l.take q) f)) d.name else onceL (bearersL (l.take q) f) := by
  rw [bearers_take f h]
  unfold onceL
  rw [List.foldl_append]
  split <;> rfl
theorem filter_adds (p : ByteArray → Bool) : ∀ (l out : List ByteArray), (l.foldl addN out).filter p = (l.filter p).foldl addN (out.filter p)
  | [], _ => rfl
  | s :: t, out => by
    rw [List.foldl_cons, filter_adds p t]
    by_cases hp : p s = true
    · rw [List.filter_cons_of_pos hp, List.foldl_cons]
      congr 1
      unfold addN
      by_cases h : hasN out s = true
      · have h2 : hasN (out.filter p) s = true := hasN_iff.2 (List.mem_filter.2 ⟨hasN_iff.1 h, hp⟩)
        rw [if_pos h, if_pos h2]
      · have h2 : ¬ hasN (out.filter p) s = true := fun e => h (hasN_iff.2 (List.mem_filter.1 (hasN_iff.1 e)).1)
        rw [if_neg h, if_neg h2, List.filter_append, List.filter_cons_of_pos hp]
        rfl
    · rw [List.filter_cons_of_neg hp]
      congr 1
      unfold addN
      split
      · rfl
      · rw [List.filter_append, List.filter_cons_of_neg hp]
        simp
/-- The Objects among the parts, each once, as the document finds them. -/
def objO (S : SchT) (l : List ByteArray) : List ByteArray := onceL (l.filter (objB S))
theorem objO_all (S : SchT) (l : List ByteArray) : objO S l = objL S (onceL l) := by
  unfold objO objL onceL
  rw [filter_adds]
  rfl
theorem objO_take {S : SchT} {l : List ByteArray} {q : Nat} {x : ByteArray} (h : l[q]? = some x) : objO S (l.take (q + 1)) = if objB S x = true then addN (objO S (l.take q)) x else objO S (l.take q) := by
  unfold objO onceL
  rw [List.take_add_one, h, List.filter_append, List.foldl_append]
  split
  · rename_i e
    rw [show (some x).toList = [x] from rfl, List.filter_cons_of_pos e]
    rfl
  · rename_i e
    rw [show (some x).toList = [x] from rfl, List.filter_cons_of_neg e]
    rfl
theorem objO_len (S : SchT) (l : List ByteArray) : (objO S l).length ≤ l.length := Nat.le_trans (once_len _) (List.length_filter_le _ _)
/-- The schema's box is the first block of one's own, the definition's another. -/
def BX (w : World) (c0 c1 c2 : Value) (W : World) : Prop := Below w.heap.size w W ∧ W.heap[w.heap.size]? = some (.cells #[c0, c1, c2] 24 (0, 0))
theorem BX.next {w W W' : World} {c0 c1 c2 : Value} (h : BX w c0 c1 c2 W) (hb : Below W.heap.size W W') : BX w c0 c1 c2 W' :=
  ⟨h.1.trans (hb.mono h.1.size), (hb.block _ (Array.getElem?_eq_some_iff.1 h.2).1).trans h.2⟩
theorem BX.grown {w W W' : World} {c0 c1 c2 : Value} {k : Option Nat} (h : BX w c0 c1 c2 W) (hg : W.grownBy W' k) (hk : ∀ b, k = some b → w.heap.size + 1 ≤ b) : BX w c0 c1 c2 W' :=
  ⟨below_grown h.1 hg h.1.size (fun b hb => by have := hk b hb; omega), (hg.block _ (Array.getElem?_eq_some_iff.1 h.2).1 (fun e => by have := hk _ e.symm; omega)).trans h.2⟩
theorem BX.lt {w W : World} {c0 c1 c2 : Value} (h : BX w c0 c1 c2 W) : w.heap.size < W.heap.size := (Array.getElem?_eq_some_iff.1 h.2).1
/-- The schema's box and two cells more. -/
def QW (wz : World) (g : Nat) (c0 c1 c2 : Value) (b o : Nat) (v : Value) (b' o' : Nat) (v' : Value) (W : World) : Prop := W.cell? ⟨g, 0, none⟩ = some c0 ∧ W.cell? ⟨g, 1, none⟩ = some c1 ∧ W.cell? ⟨g, 2, none⟩ = some c2 ∧ W.cell? ⟨b, o, none⟩ = some v ∧ W.cell? ⟨b', o', none⟩ = some v' ∧ Below wz.heap.size wz W
theorem QW.next {wz W W' : World} {g b o b' o' : Nat} {c0 c1 c2 v v' : Value} (h : QW wz g c0 c1 c2 b o v b' o' v' W) (hl : g < wz.heap.size) (hl2 : b < wz.heap.size) (hl3 : b' < wz.heap.size) (hb : Below W.heap.size W W') : QW wz g c0 c1 c2 b o v b' o' v' W' := by
  obtain ⟨h1, h2, h4, h5, h6, hK⟩ := h
  have q := Nat.lt_of_lt_of_le hl hK.size
  have q2 := Nat.lt_of_lt_of_le hl2 hK.size
  have q3 := Nat.lt_of_lt_of_le hl3 hK.size
  exact ⟨(hb.cell (p := ⟨g, _, none⟩) q).trans h1, (hb.cell (p := ⟨g, _, none⟩) q).trans h2, (hb.cell (p := ⟨g, _, none⟩) q).trans h4, (hb.cell (p := ⟨b, _, none⟩) q2).trans h5, (hb.cell (p := ⟨b', _, none⟩) q3).trans h6, hK.trans (hb.mono hK.size)⟩
theorem QW.written {wz W : World} {g b o b' o' : Nat} {c0 c1 c2 v v' : Value} (h : QW wz g c0 c1 c2 b o v b' o' v' W) : W.cell? ⟨g, 0, none⟩ = some c0 ∧ W.cell? ⟨g, 1, none⟩ = some c1 ∧ W.cell? ⟨g, 2, none⟩ = some c2 ∧ W.cell? ⟨b, o, none⟩ = some v ∧ W.cell? ⟨b', o', none⟩ = some v' ∧ QW wz g c0 c1 c2 b o v b' o' v' W := ⟨h.1, h.2.1, h.2.2.1, h.2.2.2.1, h.2.2.2.2.1, h⟩
theorem QW.held {wz W : World} {g b o b' o' : Nat} {c0 c1 c2 v v' : Value} {p1 p2 p3 p4 p5 : Prop} (h : p1 ∧ p2 ∧ p3 ∧ p4 ∧ p5 ∧ QW wz g c0 c1 c2 b o v b' o' v' W) : Below wz.heap.size wz W := h.2.2.2.2.2.2.2.2.2.2
theorem QW.last {wz W : World} {g b o b' o' : Nat} {c0 c1 c2 v v' : Value} {p1 p2 p3 p4 p5 : Prop} (h : p1 ∧ p2 ∧ p3 ∧ p4 ∧ p5 ∧ QW wz g c0 c1 c2 b o v b' o' v' W) : QW wz g c0 c1 c2 b o v b' o' v' W := h.2.2.2.2.2
set_option maxRecDepth 100000 in
set_option maxHeartbeats 8000000 in
theorem rposs_any (S : SchT) (n : ByteArray) (c0 c1 c2 : Value) (w : World) (B : Nat) (hB : B ≤ w.heap.size) (hn : n.size ≤ 9223372036854775807) (hz : SlimS S) (hS : TS w (fun b => b < B) (encSch S) [c0, c1, c2]) :
    Calls Try.prog 18 #[.agg #[c0, c1, c2], .string n] w (RowR w.heap.size (possL S n) w) := by
  obtain ⟨i0, hi, hz0, hz1, hz2⟩ := info_parts1 info_txt
  have F := Lib.hid (fun (wx : World) (hb : Below w.heap.size w wx) => rfind_any S n c0 c1 c2 wx B (Nat.le_trans hB hb.size) hn (TS.low (hb.mono hB) hS))
  have OB := Lib.hid (fun (m : ByteArray) (hm : m.size ≤ 9223372036854775807) (wx : World) (hb : Below w.heap.size w wx) => robject_any S m c0 c1 c2 wx B (Nat.le_trans hB hb.size) hm (TS.low (hb.mono hB) hS))
  have FS := Lib.hid (find_slim hz.2 n)
  have HZ := Lib.hid hz.1
  obtain ⟨A, k, e, hl, hR⟩ := sch_cells hS
  injection e with e0 e
  injection e with e1 e
  injection e with e2 e
  subst e0 e1 e2
  have HB0 := Lib.hid hB
  have HR := Lib.hid hR
  have X0 := Lib.hid (show BX w (.slice A S.defs.length k) (.string S.query) (.string S.mutation) _ from ⟨dbelow_new w _, heap_alloc_new w (.cells #[.slice A S.defs.length k, .string S.query, .string S.mutation] 24)⟩)
  have HQ : Hid (possL S n = if (findD S.defs n).2 = true then
    (if ((findD S.defs n).1.kind == 1) = true then [n] else if ((findD S.defs n).1.kind == 2) = true then onceL (bearersL S.defs n) else if ((findD S.defs n).1.kind == 3) = true then objL S (onceL (findD S.defs n).1.parts) else [])
    else []) := Lib.hid rfl
  generalize possL S n = Q at HQ ⊢
  generalize findD S.defs n = x at F FS HQ
  obtain ⟨l, el⟩ : ∃ l, S.defs = l := ⟨_, rfl⟩
  rw [el] at hl HR X0 HQ HZ F OB ⊢
  clear hB hS hR e el hz
  obtain ⟨d, ok⟩ := x
  go_enter Try.func18, Try.ntmps18
  go_wp2_with fail
  refine (F.out _ X0.out.1).mono ?_
  rintro e w1 ⟨d0, d1, d2, d3, d4, d5, rfl, hT, hb1⟩
  have X1 := Lib.hid (X0.out.next hb1)
  obtain ⟨Af, kf, Ax, kx, Ap, kp, Am, km, e, _, _, _, ⟨hlp, hrp⟩, _⟩ := defn_cells hT
  simp only [List.cons.injEq, and_true] at e
  obtain ⟨rfl, rfl, rfl, rfl, rfl, rfl⟩ := e
  have HP := Lib.hid hrp
  clear hT hb1 F hrp X0
  go_upto_region 2 with fail
  have X2 := Lib.hid (X1.out.next (dbelow_new w1 (.cells #[.int .i64 d.kind, .string d.name, .slice Af d.faces.length kf, .slice Ax d.fields.length kx, .slice Ap d.parts.length kp, .slice Am d.params.length km] 32)))
  have F2 := heap_alloc_new w1 (.cells #[.int .i64 d.kind, .string d.name, .slice Af d.faces.length kf, .slice Ax d.fields.length kx, .slice Ap d.parts.length kp, .slice Am d.params.length km] 32)
  have HP2 := Lib.hid (RowT.below ((dbelow_new w1 (.cells #[.int .i64 d.kind, .string d.name, .slice Af d.faces.length kf, .slice Ax d.fields.length kx, .slice Ap d.parts.length kp, .slice Am d.params.length km] 32)).mono (Nat.le_trans HB0.out X1.out.1.size)) HP.out)
  have hg2 : w.heap.size < w1.heap.size := X1.out.lt
  generalize w1.alloc (.cells #[.int .i64 d.kind, .string d.name, .slice Af d.faces.length kf, .slice Ax d.fields.length kx, .slice Ap d.parts.length kp, .slice Am d.params.length km] 32) = w2 at X2 F2 HP2 ⊢
  generalize w1.heap.size = g5 at F2 hg2 ⊢
  have HF2 := Lib.hid F2
  obtain ⟨⟨y0, y1, y2, y3, y4, y5⟩, _⟩ := six_cells F2
  clear F2 HP X1
  cases ok with
  | false =>
    have hQ : Q = [] := HQ.out
    subst hQ
    clear y1 y2 y3 y4 y5
    go_wp2_with fail
    go_ret
    exact ⟨none, 0, rfl, ⟨rfl, fun j x hx => by simp at hx⟩, X2.out.1⟩
  | true =>
    cases k1 : (d.kind == 1) with
    | true =>
      have hQ : Q = [n] := HQ.out.trans (by simp [k1])
      have O3 := Lib.hid ((SR.nil (w.heap.size + 1) w2).low (dbelow_new w2 (.cells #[.string n] 9)))
      have X3 := Lib.hid (X2.out.next (dbelow_new w2 (.cells #[.string n] 9)))
      have hl3 := X3.out.lt
      clear y1 y2 y3 y4 y5
      go_wp2_with (at_builtin; refine wpList_append_lies _ rfl _ _ 28 rfl (w.heap.size + 1) 9 i0 (.string ⟨#[]⟩) 1 16 Try.underlying28 hi hz0 hz1 hz2 rfl (by decide) _ 0 [] rfl O3.out _ 1 1 [.string n] rfl rfl (fun j u hj => World.news_of_block (heap_alloc_new _ _) j u hj) (by intro y hy; simp at hy; rcases hy with rfl <;> rfl) (by decide) (by unfold maxLen; omega) (by omega) hl3 _ rfl ?_; intro gg cap2 w4 hown4 hgrow hat hlt4; have HG4 := Lib.hid hgrow; have HO4 := Lib.hid hown4; clear hgrow hown4 hat)
      go_ret
      have X4 := X3.out.grown HG4.out (fun b hb => by cases hb)
      have hsr : SR (w.heap.size + 1) w4 (.slice (some ⟨gg, 0, none⟩) 1 cap2) [n] := HO4.out
      obtain ⟨A4, k4, e4, hs4⟩ := hsr.strs
      subst hQ
      exact ⟨A4, k4, by rw [← e4]; rfl, hs4, X4.1⟩
    | false =>
      cases k2 : (d.kind == 2) with
      | true =>
        have hQ : Q = onceL (bearersL l n) := HQ.out.trans (by simp [k1, k2])
        have HQ2 := Lib.hid hQ
        clear hQ y1 y2 y3 y4 y5
        go_wp2_with fail
        clear y0
        go_loopg [7, 8] l.length (fun g out i wx => ∃ q : Nat, q + g = l.length ∧ i = .int .i64 q ∧ Aside (SR (w.heap.size + 1) wx out (onceL (bearersL (l.take q) n)) ∧ BX w (.slice A l.length k) (.string S.query) (.string S.mutation) wx))
        case atStart => exact ⟨0, by omega, rfl, Blk.Aside.intro ⟨by rw [List.take_zero]; exact SR.nil _ _, X2.out⟩⟩
        case round =>
          obtain ⟨q, hq, rfl, HX⟩ := hrel
          obtain ⟨hO, hX⟩ := HX.out
          have HO := Lib.hid hO
          have XX := Lib.hid hX
          obtain ⟨x0, x1, x2⟩ := three_cells XX.out.2
          have hlt0 := XX.out.lt
          clear HX hO hX
          cases gk with
          | zero =>
            obtain rfl : q = l.length := by omega
            have hE : Hid (SR (w.heap.size + 1) wr u7 (onceL (bearersL l n))) := Lib.hid (by have := HO.out; rwa [List.take_length] at this)
            obtain ⟨A4, k4, rfl, hs4⟩ := hE.out.strs
            clear HO hE
            go_wp2_with fail
            go_ret
            have hQ := HQ2.out
            subst hQ
            exact ⟨A4, k4, rfl, hs4, XX.out.1⟩
          | succ g =>
            have hqn : q < l.length := by omega
            have hqn' : (q : Int) < (l.length : Int) := by omega
            obtain ⟨d', hd⟩ : ∃ x, l[q]? = some x := ⟨_, List.getElem?_eq_getElem hqn⟩
            obtain ⟨b, p, c0, c1, c2, c3, c4, c5, rfl, hlt, ⟨g0, g1, g2, g3, g4, g5'⟩, hT⟩ := defn_at (RowT.below (XX.out.1.mono HB0.out) HR.out) hd
            obtain ⟨Bf, jf, Bx, jx, Bp, jp, Bm, jm, e, hns, ⟨hlf, hrf⟩, _⟩ := defn_cells hT
            simp only [List.cons.injEq, and_true] at e
            obtain ⟨rfl, rfl, rfl, rfl, rfl, rfl⟩ := e
            have hN := Lib.hid (once_bears (f := n) hd)
            have hBr := Nat.le_trans HB0.out XX.out.1.size
            have hlt' : b < wr.heap.size := Nat.lt_of_lt_of_le hlt hBr
            clear hT hd hlt
            go_upto_region 11 with fail
            clear g0 g1 g2 g3 g4 g5' x0 x1 x2
            have BXZ := dbelow_new wr (.cells #[.int .i64 d'.kind, .string d'.name, .slice Bf d'.faces.length jf, .slice Bx d'.fields.length jx, .slice Bp d'.parts.length jp, .slice Bm d'.params.length jm] 32)
            have F3 := heap_alloc_new wr (.cells #[.int .i64 d'.kind, .string d'.name, .slice Bf d'.faces.length jf, .slice Bx d'.fields.length jx, .slice Bp d'.parts.length jp, .slice Bm d'.params.length jm] 32)
            have XZ := Lib.hid (XX.out.next BXZ)
            have hCf := Lib.hid (((str_row hrf).below (BXZ.mono hBr)).more (Nat.le_trans hBr BXZ.size))
            have HOZ := Lib.hid (HO.out.low BXZ)
            generalize wr.alloc (.cells #[.int .i64 d'.kind, .string d'.name, .slice Bf d'.faces.length jf, .slice Bx d'.fields.length jx, .slice Bp d'.parts.length jp, .slice Bm d'.params.length jm] 32) = wz at BXZ F3 XZ hCf HOZ ⊢
            generalize wr.heap.size = g6 at F3 ⊢
            have HF3 := Lib.hid F3
            have hg6 := (Array.getElem?_eq_some_iff.1 F3).1
            obtain ⟨⟨y0, y1, y2, y3, y4, y5⟩, _⟩ := six_cells F3
            obtain ⟨Ao, co, rfl, hso⟩ := HOZ.out.strs
            have HSO := Lib.hid hso
            have hll : (onceL (bearersL (l.take q) n)).length ≤ q := Nat.le_trans (once_len _) (Nat.le_trans (bearers_len _ _) (by simp; omega))
            clear F3 hrf HO BXZ hso
            cases e1 : (d'.kind == 1)
            case' false =>
              have hbe : Hid (onceL (bearersL (l.take (q + 1)) n) = onceL (bearersL (l.take q) n)) := Lib.hid (by rw [hN.out]; unfold bearsB; rw [e1]; simp)
              go_wp2_with fail
              go_roundg g
              case measure => omega
              case rel => exact ⟨q + 1, by omega, by go_num, Blk.Aside.intro ⟨by rw [hbe.out]; exact HOZ.out, XZ.out⟩⟩
            case' true =>
              go_wp2_with fail
              refine (rhas_any Bf d'.faces.length jf d'.faces n wz hlf hCf.out).mono ?_
              rintro e w4 ⟨rfl, hb4⟩
              have X4 := Lib.hid (XZ.out.next hb4)
              have O4 := Lib.hid (HOZ.out.low hb4)
              have HSO4 := Lib.hid (HSO.out.on hb4)
              have F4 := (hb4.block g6 hg6).trans HF3.out
              have hg64 := Nat.lt_of_lt_of_le hg6 hb4.size
              have HF4 := Lib.hid F4
              clear y0 y1 y2 y3 y4 y5 hb4 XZ HOZ HSO HF3 hCf
              obtain ⟨⟨y0, y1, y2, y3, y4, y5⟩, _⟩ := six_cells F4
              clear F4
              cases e2 : hasN d'.faces n
              case' false =>
                have hbe : Hid (onceL (bearersL (l.take (q + 1)) n) = onceL (bearersL (l.take q) n)) := Lib.hid (by rw [hN.out]; unfold bearsB; rw [e1, e2]; simp)
                go_wp2_with fail
                go_roundg g
                case measure => omega
                case rel => exact ⟨q + 1, by omega, by go_num, Blk.Aside.intro ⟨by rw [hbe.out]; exact O4.out, X4.out⟩⟩
              case' true =>
                go_wp2_with fail
                refine (rhas_any Ao (onceL (bearersL (l.take q) n)).length co (onceL (bearersL (l.take q) n)) d'.name w4 (by omega) HSO4.out).mono ?_
                rintro e w5 ⟨rfl, hb5⟩
                have X5 := Lib.hid (X4.out.next hb5)
                have O5 := Lib.hid (O4.out.low hb5)
                have F5 := (hb5.block g6 hg64).trans HF4.out
                clear y0 y1 y2 y3 y4 y5 hb5 X4 O4 HF4 HSO4
                obtain ⟨⟨y0, y1, _⟩, _⟩ := six_cells F5
                have hg65 := (Array.getElem?_eq_some_iff.1 F5).1
                clear F5
                cases e3 : hasN (onceL (bearersL (l.take q) n)) d'.name
                case' true =>
                  have hbe : Hid (onceL (bearersL (l.take (q + 1)) n) = onceL (bearersL (l.take q) n)) := Lib.hid (by rw [hN.out]; unfold bearsB; rw [e1, e2, addN, if_pos e3]; simp)
                  go_wp2_with fail
                  go_roundg g
                  case measure => omega
                  case rel => exact ⟨q + 1, by omega, by go_num, Blk.Aside.intro ⟨by rw [hbe.out]; exact O5.out, X5.out⟩⟩
                case' false =>
                  have hbe : Hid (onceL (bearersL (l.take (q + 1)) n) = onceL (bearersL (l.take q) n) ++ [d'.name]) := Lib.hid (by rw [hN.out, if_pos (by unfold bearsB; rw [e1, e2]; rfl), addN, if_neg (by rw [e3]; decide)])
                  have O6 := Lib.hid (O5.out.low (dbelow_new w5 (.cells #[.string d'.name] 9)))
                  have X6 := Lib.hid (X5.out.next (dbelow_new w5 (.cells #[.string d'.name] 9)))
                  have hl6 := X6.out.lt
                  have hZ := HZ.out
                  go_wp2_with (at_builtin; refine wpList_append_lies _ rfl _ _ 28 rfl (w.heap.size + 1) 9 i0 (.string ⟨#[]⟩) 1 16 Try.underlying28 hi hz0 hz1 hz2 rfl (by decide) _ (onceL (bearersL (l.take q) n)).length ((onceL (bearersL (l.take q) n)).map .string) rfl O6.out _ 1 1 [.string d'.name] rfl rfl (fun j u hj => World.news_of_block (heap_alloc_new _ _) j u hj) (by intro y hy; simp at hy; rcases hy with rfl <;> rfl) (by decide) (by unfold maxLen; omega) (by omega) hl6 _ rfl ?_; intro gg cap2 w6 hown4 hgrow hat hlt4; have HG4 := Lib.hid hgrow; have HO4 := Lib.hid hown4; clear hgrow hown4 hat)
                  have X7 := Lib.hid (X6.out.grown HG4.out (fun b hb => O5.out.own b hb))
                  go_roundg g
                  case measure => omega
                  case rel => exact ⟨q + 1, by omega, by go_num, Blk.Aside.intro ⟨by rw [hbe.out]; unfold SR; rw [List.length_append, List.map_append]; exact HO4.out, X7.out⟩⟩
      | false =>
        cases k3 : (d.kind == 3) with
        | false =>
          have hQ : Q = [] := HQ.out.trans (by simp [k1, k2, k3])
          subst hQ
          clear y1 y2 y3 y4 y5
          go_wp2_with fail
          go_ret
          exact ⟨none, 0, rfl, ⟨rfl, fun j x hx => by simp at hx⟩, X2.out.1⟩
        | true =>
          have hQ : Q = objO S d.parts := HQ.out.trans (by simp [k1, k2, k3, objO_all])
          have HQ2 := Lib.hid hQ
          have HZP := Lib.hid FS.out.2.2.1
          have HSB := Lib.hid (str_bd HP2.out)
          have HSP := Lib.hid (str_row HP2.out)
          obtain ⟨xs, exs⟩ : ∃ xs, d.parts = xs := ⟨_, rfl⟩
          rw [exs] at HZP HSB HSP hlp y4 HQ2
          have Y4 := Lib.hid y4
          clear hQ y1 y2 y3 y5
          go_wp2_with fail
          clear y0 y4
          go_loopg [7, 10] xs.length (fun g out i wx => ∃ q : Nat, q + g = xs.length ∧ i = .int .i64 q ∧ Aside (SR (w2.heap.size + 1) wx out (objO S (xs.take q)) ∧ BX w (.slice A l.length k) (.string S.query) (.string S.mutation) wx ∧ Below w2.heap.size w2 wx))
          case atStart => exact ⟨0, by omega, rfl, Blk.Aside.intro ⟨by rw [List.take_zero]; exact SR.nil _ _, X2.out, Below.refl _ _⟩⟩
          case round =>
            obtain ⟨q, hq, rfl, HX⟩ := hrel
            obtain ⟨hO, hX, hb⟩ := HX.out
            have HO := Lib.hid hO
            have XX := Lib.hid hX
            have HBB := Lib.hid hb
            have hg52 : g5 < w2.heap.size := (Array.getElem?_eq_some_iff.1 HF2.out).1
            have y4 := (hb.cell (p := ⟨g5, 4, none⟩) hg52).trans Y4.out
            clear HX hO hX hb
            cases gk with
            | zero =>
              obtain rfl : q = xs.length := by omega
              have hE : Hid (SR (w2.heap.size + 1) wr u7 (objO S xs)) := Lib.hid (by have := HO.out; rwa [List.take_length] at this)
              obtain ⟨A4, k4, rfl, hs4⟩ := hE.out.strs
              clear HO hE
              go_wp2_with fail
              go_ret
              have hQ := HQ2.out
              subst hQ
              exact ⟨A4, k4, rfl, hs4, XX.out.1⟩
            | succ g =>
              have hqn : q < xs.length := by omega
              have hqn' : (q : Int) < (xs.length : Int) := by omega
              obtain ⟨s, hx⟩ : ∃ x, xs[q]? = some x := ⟨_, List.getElem?_eq_getElem hqn⟩
              obtain ⟨b1, o1, rfl, hl1, cs⟩ := HSP.out.2 q s hx
              have hl12 : b1 < w2.heap.size := Nat.lt_of_lt_of_le hl1 (Nat.le_trans HB0.out X2.out.1.size)
              have cs := (HBB.out.cell (p := ⟨b1, o1 + q, none⟩) hl12).trans cs
              have hsb := HSB.out s (List.mem_of_getElem? hx)
              have hN := Lib.hid (objO_take (S := S) hx)
              have HOB := Lib.hid (OB.out s hsb)
              obtain ⟨Ao, co, rfl, hso⟩ := HO.out.strs
              have HSO := Lib.hid hso
              have hll : (objO S (xs.take q)).length ≤ q := Nat.le_trans (objO_len _ _) (by simp; omega)
              obtain ⟨x0, x1, x2⟩ := three_cells XX.out.2
              have hE : QW wr w.heap.size (.slice A l.length k) (.string S.query) (.string S.mutation) g5 4 (.slice (some ⟨b1, o1, none⟩) xs.length kp) b1 (o1 + q) (.string s) wr := ⟨x0, x1, x2, y4, cs, Below.refl _ _⟩
              have HL := Lib.hid XX.out.lt
              have HL2 := Lib.hid (Nat.lt_of_lt_of_le hg52 HBB.out.size)
              have HL3 := Lib.hid (Nat.lt_of_lt_of_le hl12 HBB.out.size)
              have HAS := Lib.hid (fun (wx : World) (h : Below wr.heap.size wr wx) => rhas_any Ao (objO S (xs.take q)).length co (objO S (xs.take q)) s wx (by omega) (HSO.out.on h))
              go_wp2_with fail
              generalize hob : objB S s = ob at hN HOB
              generalize hhs : hasN (objO S (xs.take q)) s = hs at HAS
              have HHS := Lib.hid hhs
              clear hob hhs hso HSO hx
              cases ob with
              | false =>
                refine wp_region_held_drew (S := (fun w' => w'.cell? ⟨w.heap.size, 0, none⟩ = some (.slice A l.length k) ∧ w'.cell? ⟨w.heap.size, 1, none⟩ = some (.string S.query) ∧ w'.cell? ⟨w.heap.size, 2, none⟩ = some (.string S.mutation) ∧ w'.cell? ⟨g5, 4, none⟩ = some (.slice (some ⟨b1, o1, none⟩) xs.length kp) ∧ w'.cell? ⟨b1, o1 + q, none⟩ = some (.string s) ∧ QW wr w.heap.size (.slice A l.length k) (.string S.query) (.string S.mutation) g5 4 (.slice (some ⟨b1, o1, none⟩) xs.length kp) b1 (o1 + q) (.string s) w')) (by kernel_rfl) (QW.written (hE.next HL.out HL2.out HL3.out (Below.drew (Below.refl _ _)))) (fun hHeld => ?_)
                refine wpAnyH_take (i := 0) (oi := _) (v := ?_) rfl (by kernel_rfl) (by kernel_rfl) (by kernel_rfl) (fun _ _ _ h => h) (Or.inl ⟨by rfl, ?_⟩) (by assumption) ?_
                rotate_left
                · (intro w hSw; (try dsimp only at hSw); go_simp; try with_reducible rfl)
                try simp only [Act.put, List.getElem_toArray, List.getElem_cons_zero, List.setIfInBounds_toArray, List.set_cons_zero, List.set_cons_succ]
                refine wpAnyH_take (i := 1) (oi := _) (v := ?_) rfl (by kernel_rfl) (by kernel_rfl) (by kernel_rfl) (fun _ _ _ h => h) (Or.inl ⟨by rfl, ?_⟩) (by assumption) ?_
                rotate_left
                · (intro w hSw; (try dsimp only at hSw); go_simp; try with_reducible rfl)
                try simp only [Act.put, List.getElem_toArray, List.getElem_cons_zero, List.getElem_cons_succ, List.setIfInBounds_toArray, List.set_cons_zero, List.set_cons_succ]
                refine wpAnyH_take (i := 2) (oi := _) (v := ?_) rfl (by kernel_rfl) (by kernel_rfl) (by kernel_rfl) (fun _ _ _ h => h) (Or.inl ⟨by rfl, ?_⟩) (by assumption) ?_
                rotate_left
                · (intro w hSw; (try dsimp only at hSw); go_simp; try with_reducible rfl)
                try simp only [Act.put, List.getElem_toArray, List.getElem_cons_zero, List.getElem_cons_succ, List.setIfInBounds_toArray, List.set_cons_zero, List.set_cons_succ]
                refine wpAnyH_take (i := 3) (oi := _) (v := ?_) rfl (by kernel_rfl) (by kernel_rfl) (by kernel_rfl) (fun _ _ _ h => h) (Or.inl ⟨by rfl, ?_⟩) (by assumption) ?_
                rotate_left
                · (intro w hSw; (try dsimp only at hSw); go_simp; try with_reducible rfl)
                try simp only [Act.put, List.getElem_toArray, List.getElem_cons_zero, List.getElem_cons_succ, List.setIfInBounds_toArray, List.set_cons_zero, List.set_cons_succ]
                refine wpAnyH_take (i := 4) (oi := _) (v := ?_) rfl (by kernel_rfl) (by kernel_rfl) (by kernel_rfl) (fun _ _ _ h => h) (Or.inl ⟨by rfl, ?_⟩) (by assumption) ?_
                rotate_left
                · (intro w hSw; (try dsimp only at hSw); go_simp; try with_reducible rfl)
                try simp only [Act.put, List.getElem_toArray, List.getElem_cons_zero, List.getElem_cons_succ, List.setIfInBounds_toArray, List.set_cons_zero, List.set_cons_succ]
                refine wpAnyH_take (i := 5) (oi := _) (v := ?_) rfl (by kernel_rfl) (by kernel_rfl) (by kernel_rfl) (fun _ _ _ h => h) (Or.inl ⟨by rfl, ?_⟩) (by assumption) ?_
                rotate_left
                · (intro w hSw; (try dsimp only at hSw); go_simp; try with_reducible rfl)
                try simp only [Act.put, List.getElem_toArray, List.getElem_cons_zero, List.getElem_cons_succ, List.setIfInBounds_toArray, List.set_cons_zero, List.set_cons_succ]
                refine wpAnyH_ready (rs := [6]) (by kernel_rfl) (by simp) ?_
                refine AllReadyH.cons (o := _) rfl (fun K hK => ?_) AllReadyH.nil
                go_simp
                refine (HOB.out _ (XX.out.1.trans ((QW.held (by assumption)).mono XX.out.1.size))).mono ?_
                rintro e w' ⟨rfl, hb⟩
                go_wp2_with fail
                refine hK.out _ _ (QW.written (QW.next (QW.last (by assumption)) HL.out HL2.out HL3.out (by assumption))) (fun hHeld => ?_)
                clear hK K hb
                try simp only [Act.put, List.getElem_toArray, List.getElem_cons_zero, List.getElem_cons_succ, List.setIfInBounds_toArray, List.set_cons_zero, List.set_cons_succ]
                refine wpAnyH_take (i := 7) (oi := _) (v := ?_) rfl (by kernel_rfl) (by kernel_rfl) (by kernel_rfl) (fun _ _ _ h => h) (Or.inl ⟨by rfl, ?_⟩) (by assumption) ?_
                rotate_left
                · (intro w hSw; (try dsimp only at hSw); go_simp; try with_reducible rfl)
                try simp only [Act.put, List.getElem_toArray, List.getElem_cons_zero, List.getElem_cons_succ, List.setIfInBounds_toArray, List.set_cons_zero, List.set_cons_succ]
                refine wpAnyH_take (i := 8) (oi := _) (v := undef) rfl (by kernel_rfl) (by kernel_rfl) (by kernel_rfl) (fun _ _ _ h => h) (Or.inr ⟨by rfl, rfl⟩) (by assumption) ?_
                try simp only [Act.put, List.getElem_toArray, List.getElem_cons_zero, List.getElem_cons_succ, List.setIfInBounds_toArray, List.set_cons_zero, List.set_cons_succ]
                refine wpAnyH_take (i := 9) (oi := _) (v := undef) rfl (by kernel_rfl) (by kernel_rfl) (by kernel_rfl) (fun _ _ _ h => h) (Or.inr ⟨by rfl, rfl⟩) (by assumption) ?_
                try simp only [Act.put, List.getElem_toArray, List.getElem_cons_zero, List.getElem_cons_succ, List.setIfInBounds_toArray, List.set_cons_zero, List.set_cons_succ]
                refine wpAnyH_take (i := 10) (oi := _) (v := undef) rfl (by kernel_rfl) (by kernel_rfl) (by kernel_rfl) (fun _ _ _ h => h) (Or.inr ⟨by rfl, rfl⟩) (by assumption) ?_
                try simp only [Act.put, List.getElem_toArray, List.getElem_cons_zero, List.getElem_cons_succ, List.setIfInBounds_toArray, List.set_cons_zero, List.set_cons_succ]
                refine wpAnyH_take (i := 11) (oi := _) (v := undef) rfl (by kernel_rfl) (by kernel_rfl) (by kernel_rfl) (fun _ _ _ h => h) (Or.inr ⟨by rfl, rfl⟩) (by assumption) ?_
                try simp only [Act.put, List.getElem_toArray, List.getElem_cons_zero, List.getElem_cons_succ, List.setIfInBounds_toArray, List.set_cons_zero, List.set_cons_succ]
                refine wpAnyH_take (i := 12) (oi := _) (v := undef) rfl (by kernel_rfl) (by kernel_rfl) (by kernel_rfl) (fun _ _ _ h => h) (Or.inr ⟨by rfl, rfl⟩) (by assumption) ?_
                try simp only [Act.put, List.getElem_toArray, List.getElem_cons_zero, List.getElem_cons_succ, List.setIfInBounds_toArray, List.set_cons_zero, List.set_cons_succ]
                refine wpAnyH_take (i := 13) (oi := _) (v := undef) rfl (by kernel_rfl) (by kernel_rfl) (by kernel_rfl) (fun _ _ _ h => h) (Or.inr ⟨by rfl, rfl⟩) (by assumption) ?_
                try simp only [Act.put, List.getElem_toArray, List.getElem_cons_zero, List.getElem_cons_succ, List.setIfInBounds_toArray, List.set_cons_zero, List.set_cons_succ]
                refine wpAnyH_take (i := 14) (oi := _) (v := undef) rfl (by kernel_rfl) (by kernel_rfl) (by kernel_rfl) (fun _ _ _ h => h) (Or.inr ⟨by rfl, rfl⟩) (by assumption) ?_
                try simp only [Act.put, List.getElem_toArray, List.getElem_cons_zero, List.getElem_cons_succ, List.setIfInBounds_toArray, List.set_cons_zero, List.set_cons_succ]
                refine wpAnyH_take (i := 15) (oi := _) (v := undef) rfl (by kernel_rfl) (by kernel_rfl) (by kernel_rfl) (fun _ _ _ h => h) (Or.inr ⟨by rfl, rfl⟩) (by assumption) ?_
                try simp only [Act.put, List.getElem_toArray, List.getElem_cons_zero, List.getElem_cons_succ, List.setIfInBounds_toArray, List.set_cons_zero, List.set_cons_succ]
                refine wpAnyH_take (i := 16) (oi := _) (v := ?_) rfl (by kernel_rfl) (by kernel_rfl) (by kernel_rfl) (fun _ _ _ h => h) (Or.inl ⟨by rfl, ?_⟩) (by assumption) ?_
                rotate_left
                · (intro w hSw; (try dsimp only at hSw); go_simp; try with_reducible rfl)
                try simp only [Act.put, List.getElem_toArray, List.getElem_cons_zero, List.getElem_cons_succ, List.setIfInBounds_toArray, List.set_cons_zero, List.set_cons_succ]
                refine wpAnyH_done (by kernel_rfl) ?_ _
                have HK := Lib.hid (QW.held hHeld)
                have X5 := Lib.hid (XX.out.next HK.out)
                have O5 := Lib.hid (HO.out.low HK.out)
                have B5 := Lib.hid (HBB.out.trans (HK.out.mono HBB.out.size))
                have hbe : Hid (objO S (xs.take (q + 1)) = objO S (xs.take q)) := Lib.hid (by rw [hN.out, if_neg (by decide)])
                clear hE x0 x1 x2 y4 cs HAS hHeld HK
                go_wp2_with fail
                go_roundg g
                case measure => omega
                case rel => exact ⟨q + 1, by omega, by go_num, Blk.Aside.intro ⟨by rw [hbe.out]; exact O5.out, X5.out, B5.out⟩⟩
              | true =>
                go_region_held3 (fun w' => w'.cell? ⟨w.heap.size, 0, none⟩ = some (.slice A l.length k) ∧ w'.cell? ⟨w.heap.size, 1, none⟩ = some (.string S.query) ∧ w'.cell? ⟨w.heap.size, 2, none⟩ = some (.string S.mutation) ∧ w'.cell? ⟨g5, 4, none⟩ = some (.slice (some ⟨b1, o1, none⟩) xs.length kp) ∧ w'.cell? ⟨b1, o1 + q, none⟩ = some (.string s) ∧ QW wr w.heap.size (.slice A l.length k) (.string S.query) (.string S.mutation) g5 4 (.slice (some ⟨b1, o1, none⟩) xs.length kp) b1 (o1 + q) (.string s) w')
                  (first
                    | exact QW.written (hE.next HL.out HL2.out HL3.out (Below.drew (Below.refl _ _)))
                    | exact QW.written ((hE.next HL.out HL2.out HL3.out (Below.drew (Below.refl _ _))).next HL.out HL2.out HL3.out (by assumption))
                    | exact QW.written (hE.next HL.out HL2.out HL3.out (by assumption))
                    | exact QW.written (QW.next (QW.last (by assumption)) HL.out HL2.out HL3.out (by assumption))
                    | go_keep)
                  ((first
                    | (go_at_call 40; refine (HOB.out _ (by first | exact XX.out.1.trans (Below.mono (Below.drew (Below.refl _ _)) XX.out.1.size) | exact XX.out.1.trans ((QW.held (by assumption)).mono XX.out.1.size))).mono ?_; rintro e w' ⟨rfl, hb⟩)
                    | (go_at_call 39; refine (HAS.out _ (by first | exact Below.drew (Below.refl _ _) | exact QW.held (by assumption))).mono ?_; rintro e w' ⟨rfl, hb⟩)))
                all_goals
                  have HK := Lib.hid (QW.held (by assumption))
                  have X5 := Lib.hid (XX.out.next HK.out)
                  have O5 := Lib.hid (HO.out.low HK.out)
                  have B5 := Lib.hid (HBB.out.trans (HK.out.mono HBB.out.size))
                  have y4' := (HK.out.cell (p := ⟨g5, 4, none⟩) HL2.out).trans y4
                  have cs' := (HK.out.cell (p := ⟨b1, o1 + q, none⟩) HL3.out).trans cs
                  clear hE x0 x1 x2 y4 cs HAS HK
                  rename_i hKeep
                  clear hKeep
                  cases hs with
                  | true =>
                    have hbe : Hid (objO S (xs.take (q + 1)) = objO S (xs.take q)) := Lib.hid (hN.out.trans (by show addN (objO S (xs.take q)) s = _; rw [addN, if_pos HHS.out]))
                    go_wp2_with fail
                    go_roundg g
                    case measure => omega
                    case rel => exact ⟨q + 1, by omega, by go_num, Blk.Aside.intro ⟨by rw [hbe.out]; exact O5.out, X5.out, B5.out⟩⟩
                  | false =>
                    have hbe : Hid (objO S (xs.take (q + 1)) = objO S (xs.take q) ++ [s]) := Lib.hid (hN.out.trans (by show addN (objO S (xs.take q)) s = _; rw [addN, if_neg (by rw [HHS.out]; decide)]))
                    have O6 := Lib.hid (O5.out.low (dbelow_new _ (.cells #[.string s] 9)))
                    have X6 := Lib.hid (X5.out.next (dbelow_new _ (.cells #[.string s] 9)))
                    have B6 := Lib.hid (B5.out.trans ((dbelow_new _ (.cells #[.string s] 9)).mono B5.out.size))
                    have hl6 : w2.heap.size + 1 ≤ (World.alloc w' (.cells #[.string s] 9)).heap.size := by have := B5.out.size; simp; omega
                    have hZ := HZP.out
                    have hw2 := X2.out.lt
                    go_wp2_with (at_builtin; refine wpList_append_lies _ rfl _ _ 28 rfl (w2.heap.size + 1) 9 i0 (.string ⟨#[]⟩) 1 16 Try.underlying28 hi hz0 hz1 hz2 rfl (by decide) _ (objO S (xs.take q)).length ((objO S (xs.take q)).map .string) rfl O6.out _ 1 1 [.string s] rfl rfl (fun j u hj => World.news_of_block (heap_alloc_new _ _) j u hj) (by intro y hy; simp at hy; rcases hy with rfl <;> rfl) (by decide) (by unfold maxLen; omega) (by omega) hl6 _ rfl ?_; intro gg cap2 w6 hown4 hgrow hat hlt4; have HG4 := Lib.hid hgrow; have HO4 := Lib.hid hown4; clear hgrow hown4 hat)
                    have X7 := Lib.hid (X6.out.grown HG4.out (fun b hb => by have := O5.out.own b hb; omega))
                    have B7 := Lib.hid (below_grown (B := w2.heap.size) B6.out HG4.out B6.out.size (fun b hb => by have := O5.out.own b hb; omega))
                    go_roundg g
                    case measure => omega
                    case rel => exact ⟨q + 1, by omega, by go_num, Blk.Aside.intro ⟨by rw [hbe.out]; unfold SR; rw [List.length_append, List.map_append]; exact HO4.out, X7.out, B7.out⟩⟩
end Go.Proofs.Ytmamgaifpjgfkaa
