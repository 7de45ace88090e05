/- dirs.wholes: operations and fragments as selections. (gen_diwhole.py wrote it.) -/
import Derived.Test.YtgihnhdknphhpaaGrApp
namespace Go.Proofs.Ytgihnhdknphhpaa
open Go.RowKit

def asSel (d : List DirT) (s : SelL) : SelT := .mk 0 ⟨#[]⟩ ⟨#[]⟩ .nil d ⟨#[]⟩ s
def opSel (x : OpT) : SelT := asSel x.dirs x.sels
def fragSel (x : FragT) : SelT := asSel x.dirs x.sels
/-- Each operation and each fragment as a selection. -/
def wholesL (D : DocT) : List SelT := D.ops.map opSel ++ D.frags.map fragSel
theorem DocAt.op {w wx : World} {B : Nat} {D : DocT} {c1 : Value} {Ao : Option Addr} {n ko : Nat} {q : Nat} {x : OpT} (h : DocAt w B D (.slice Ao n ko) c1) (hb : Below B w wx) (hx : D.ops[q]? = some x) :
    ∃ b p Av kv Ad kd As ks, Ao = some ⟨b, p, none⟩ ∧ b < B ∧ (wx.cell? ⟨b, p + q * 5, none⟩ = some (.int .i64 x.kind) ∧ wx.cell? ⟨b, p + q * 5 + 1, none⟩ = some (.string x.name) ∧ wx.cell? ⟨b, p + q * 5 + 2, none⟩ = some (.slice Av x.vars.length kv) ∧ wx.cell? ⟨b, p + q * 5 + 3, none⟩ = some (.slice Ad x.dirs.length kd) ∧ wx.cell? ⟨b, p + q * 5 + 4, none⟩ = some (.slice As x.sels.len ks)) ∧
      (x.dirs.length ≤ 9223372036854775807 ∧ RowT wx (fun b => b < B) (rowOf encD x.dirs) Ad) ∧ x.sels.len ≤ ks ∧ SelsAt wx B x.sels As ∧ x.sels.len ≤ 9223372036854775807 := by
  obtain ⟨Ao', ko', Af', kf', e, rfl, ⟨_, ro⟩, _, _⟩ := doc_cells h.1
  injection e with e1 e2 e3
  subst e1 e2 e3
  obtain ⟨b, p, Av, kv, Ad, kd, As, ks, rfl, hlt, ⟨f0, f1, f2, f3, f4⟩, _, _, ⟨ld, rd⟩, ls, rs⟩ := op_at ro hx
  obtain ⟨k1, k2⟩ := h.2.1 _ _ rfl q x.sels b p As ks (by show Option.map _ (D.ops[q]?) = _; rw [hx]; rfl) rfl f4 rs
  have hc := fun i => hb.cell (p := ⟨b, i, none⟩) hlt
  exact ⟨b, p, Av, kv, Ad, kd, As, ks, rfl, hlt, ⟨(hc _).trans f0, (hc _).trans f1, (hc _).trans f2, (hc _).trans f3, (hc _).trans f4⟩, ⟨ld, RowT.below hb rd⟩, k1, SelsAt.below ⟨rs, k2⟩ hb, ls⟩
theorem asSel_at {w : World} {B : Nat} {d : List DirT} {s : SelL} {Ad As : Option Addr} {kd ks : Nat} (hd : d.length ≤ 9223372036854775807 ∧ RowT w (fun b => b < B) (rowOf encD d) Ad) (hk : s.len ≤ ks) (hS : SelsAt w B s As) (hl : s.len ≤ 9223372036854775807) :
    SelAt w B (asSel d s) [.int .i64 0, .string ⟨#[]⟩, .string ⟨#[]⟩, .slice none 0 0, .slice Ad d.length kd, .string ⟨#[]⟩, .slice As s.len ks] := by
  refine ⟨none, 0, Ad, kd, As, ks, rfl, ?_, hk, hS, hl⟩
  unfold asSel
  rw [encS]
  simp only [TS, TP]
  exact ⟨_, _, rfl, ⟨rfl, trivial⟩, _, _, rfl, ⟨rfl, by show (0 : Nat) ≤ _; decide⟩, _, _, rfl, ⟨rfl, by show (0 : Nat) ≤ _; decide⟩, _, _, rfl, ⟨none, 0, by rw [encM]; rfl, by rw [encM]; exact Nat.zero_le _, by rw [encM]; unfold RowT; trivial⟩, _, _, rfl, ⟨Ad, kd, by rw [rowOf_len], by rw [rowOf_len]; exact hd.1, hd.2⟩, _, _, rfl, ⟨rfl, by show (0 : Nat) ≤ _; decide⟩, _, _, rfl, ⟨As, ks, by rw [encSL_len], by rw [encSL_len]; exact hl, hS.1⟩, rfl⟩
theorem wtake {α β : Type} {l : List α} {q : Nat} {x : α} (f : α → β) (h : l[q]? = some x) : (l.take (q + 1)).map f = (l.take q).map f ++ [f x] := by
  rw [List.take_add_one, h, Option.toList_some, List.map_append]; rfl
/-- The row that grows. -/
def WhI (w1 : World) (B : Nat) (L : List SelT) (V : Value) (wx : World) : Prop := Below w1.heap.size w1 wx ∧ ∃ xs, wx.ownsRow w1.heap.size 42 7 V L.length xs ∧ FlatS wx B L xs
theorem flat_snoc {w : World} {B : Nat} {l : List SelT} {xs ys : List Value} {x : SelT} (h : FlatS w B l xs) (hx : SelAt w B x ys) : FlatS w B (l ++ [x]) (xs ++ ys) :=
  FlatS.app (m := [x]) (ys := ys) ⟨ys, [], (List.append_nil _).symm, hx, rfl⟩ h
theorem WhI.more {w1 wx w2 w3 : World} {B : Nat} {L : List SelT} {V : Value} {xs ys : List Value} {x : SelT} {g6 cap6 m : Nat} (hBw : B ≤ w1.heap.size) (hB : Below w1.heap.size w1 wx) (hown : wx.ownsRow w1.heap.size 42 7 V L.length xs) (hF : FlatS wx B L xs) (hx : SelAt wx B x ys)
    (hb2 : Below wx.heap.size wx w2) (hm : m = L.length + 1) (hown6 : w3.ownsRow w1.heap.size 42 7 (.slice (some ⟨g6, 0, none⟩) m cap6) m (xs ++ ys)) (hg : w2.grownBy w3 V.ownBlock) : WhI w1 B (L ++ [x]) (.slice (some ⟨g6, 0, none⟩) m cap6) w3 := by
  have hlow := gbelow_grown (hB.trans (hb2.mono hB.size)) hg (Nat.le_trans hB.size hb2.size) (fun b hb => (hown.lt b hb).1)
  have hk : ∀ b, b < B → w3.heap[b]? = wx.heap[b]? := fun b hb => (hlow.block b (by omega)).trans (hB.block b (by omega)).symm
  refine ⟨hlow, xs ++ ys, by rw [List.length_append, List.length_singleton, ← hm]; exact hown6, flat_snoc (hF.keep (Nat.le_refl _) hk) (hx.keep (Nat.le_refl _) hk)⟩
theorem seven_news (w : World) (c0 c1 c2 c3 c4 c5 c6 : Value) (t : TypeId) {n : Nat} (hn : n = w.heap.size) : ∀ (j : Nat) u, [c0, c1, c2, c3, c4, c5, c6][j]? = some u → (w.alloc (.cells #[c0, c1, c2, c3, c4, c5, c6] t)).cell? ((⟨n, 0, none⟩ : Addr).add j) = some u := by
  subst hn
  intro j u hu
  rw [add_at, Nat.zero_add]
  obtain ⟨⟨h0, h1, h2, h3, h4, h5, h6⟩, _⟩ := gcells7 (heap_alloc_new w (.cells #[c0, c1, c2, c3, c4, c5, c6] t))
  match j, hu with
  | 0, hu => cases hu; exact h0
  | 1, hu => cases hu; exact h1
  | 2, hu => cases hu; exact h2
  | 3, hu => cases hu; exact h3
  | 4, hu => cases hu; exact h4
  | 5, hu => cases hu; exact h5
  | 6, hu => cases hu; exact h6
set_option maxRecDepth 100000 in
set_option maxHeartbeats 8000000 in
theorem wholes_any (D : DocT) (c0 c1 : Value) (w : World) (B : Nat) (hB : B ≤ w.heap.size) (hD : DocAt w B D c0 c1) (hN : D.ops.length + D.frags.length ≤ 1099511627776) :
    Calls Try.prog 14 #[.agg #[c0, c1]] w fun e w' => ∃ V xs, e = .returned V ∧ w'.ownsRow w.heap.size 42 7 V (wholesL D).length xs ∧ FlatS w' B (wholesL D) xs ∧ Below w.heap.size w w' := by
  have hN := Lib.hid hN
  obtain ⟨i0, z, hi0, hz0, hz1, hz2, hz3⟩ := gsel_row
  obtain ⟨Ao, ko, Af, kf, rfl, rfl, _⟩ := doc_cells hD.1
  have B1 := Lib.hid (gnew w (.cells #[.slice Ao D.ops.length ko, .slice Af D.frags.length kf] 49))
  have I1 := Lib.hid (heap_alloc_new w (.cells #[.slice Ao D.ops.length ko, .slice Af D.frags.length kf] 49))
  have DD := Lib.hid (hD.below (B1.out.mono hB))
  have HB0 := Lib.hid hB
  clear hD hB
  go_enter Try.func14, Try.ntmps14
  go_upto_region 1 with fail
  generalize w.alloc (.cells #[.slice Ao D.ops.length ko, .slice Af D.frags.length kf] 49) = w1 at B1 I1 DD ⊢
  have HB := Lib.hid (Nat.le_trans HB0.out B1.out.size)
  have HB1 := HB
  have HL1 := Lib.hid ((Array.getElem?_eq_some_iff.1 I1.out).1)
  obtain ⟨⟨z0, z1⟩, _⟩ := gcells2 I1.out
  go_wp2_with fail
  clear z0 z1
  go_loopg [3, 11] D.ops.length (fun g v t wx => ∃ q : Nat, q + g = D.ops.length ∧ t = .int .i64 q ∧ Asd (WhI w1 B ((D.ops.take q).map opSel) v wx))
  case atStart => exact ⟨0, by omega, rfl, Asd.intro ⟨Below.refl _ _, [], World.ownsRow_nil _ _ _ _, rfl⟩⟩
  case round =>
    obtain ⟨q, hq, rfl, HX⟩ := hrel
    obtain ⟨hbl, xs, hown, hfl⟩ := HX.out
    have BL := Lib.hid hbl
    have OL := Lib.hid hown
    have FL := Lib.hid hfl
    have HI := Lib.hid HX.out
    clear HX hbl hown hfl
    obtain ⟨⟨z0, z1⟩, _⟩ := gcells2 ((BL.out.block w.heap.size HL1.out).trans I1.out)
    cases gk with
    | zero =>
      obtain rfl : q = D.ops.length := by omega
      have HI2 := HI.out
      rw [List.take_length] at HI2
      have WD := Lib.hid HI2
      clear HI HI2 BL OL FL
      go_wp2_with fail
      go_loopg [3, 27] D.frags.length (fun g v t wx => ∃ q : Nat, q + g = D.frags.length ∧ t = .int .i64 q ∧ Asd (WhI w1 B (D.ops.map opSel ++ (D.frags.take q).map fragSel) v wx))
      case atStart => exact ⟨0, by omega, rfl, Asd.intro (by rw [List.take_zero, List.map_nil, List.append_nil]; exact WD.out)⟩
      case round =>
        obtain ⟨q, hq, rfl, HX⟩ := hrel
        obtain ⟨hbl, xs, hown, hfl⟩ := HX.out
        have BL := Lib.hid hbl
        have OL := Lib.hid hown
        have FL := Lib.hid hfl
        have HI := Lib.hid HX.out
        clear HX hbl hown hfl WD
        obtain ⟨⟨z0, z1⟩, _⟩ := gcells2 ((BL.out.block w.heap.size HL1.out).trans I1.out)
        cases gk with
        | zero =>
          obtain rfl : q = D.frags.length := by omega
          have HI2 := HI.out
          rw [List.take_length] at HI2
          obtain ⟨hb9, xs9, ho9, hf9⟩ := HI2
          have R9 := Lib.hid ho9
          have R8 := Lib.hid hb9
          have R7 := Lib.hid hf9
          clear hb9 ho9 hf9
          go_wp2_with fail
          go_ret
          exact ⟨_, xs9, rfl, gown_base R9.out B1.out.size, R7.out, B1.out.trans (R8.out.mono B1.out.size)⟩
        | succ g =>
          have hqn : q < D.frags.length := by omega
          have hqn' : (q : Int) < (D.frags.length : Int) := by omega
          obtain ⟨x, hx⟩ : ∃ x, D.frags[q]? = some x := ⟨_, List.getElem?_eq_getElem hqn⟩
          obtain ⟨b, p, Ad, kd, As, ks, rfl, hlt, ⟨f0, f1, f2, f3⟩, _, hd, hk, hS, hl⟩ := DD.out.frag (BL.out.mono HB.out) hx
          have hbl : b < wr.heap.size := Nat.lt_of_lt_of_le hlt (Nat.le_trans HB.out BL.out.size)
          have SX : Hid (SelAt wr B (fragSel x) [.int .i64 0, .string ⟨#[]⟩, .string ⟨#[]⟩, .slice none 0 0, .slice Ad x.dirs.length kd, .string ⟨#[]⟩, .slice As x.sels.len ks]) := Lib.hid (asSel_at hd hk hS hl)
          have HXX := Lib.hid hx
          have LL := (show (D.ops.map opSel ++ (D.frags.take q).map fragSel).length = D.ops.length + q by rw [List.length_append, List.length_map, List.length_map, List.length_take]; omega)
          obtain ⟨P, hP⟩ : ∃ P, D.ops.map opSel ++ (D.frags.take q).map fragSel = P := ⟨_, rfl⟩
          rw [hP] at OL FL LL
          have HPP := Lib.hid hP
          have LH := Lib.hid LL
          clear LL
          clear hx hd hk hS hl HI hP
          go_upto_region 10 with fail
          clear f0 f1 f2 f3 z0 z1
          have B5 := Lib.hid (gnew wr (.cells #[.string x.name, .string x.on, .slice Ad x.dirs.length kd, .slice As x.sels.len ks] 74))
          have I5 := Lib.hid (heap_alloc_new wr (.cells #[.string x.name, .string x.on, .slice Ad x.dirs.length kd, .slice As x.sels.len ks] 74))
          have S5 := Lib.hid (World.size_alloc (w := wr) (o := .cells #[.string x.name, .string x.on, .slice Ad x.dirs.length kd, .slice As x.sels.len ks] 74))
          generalize wr.alloc (.cells #[.string x.name, .string x.on, .slice Ad x.dirs.length kd, .slice As x.sels.len ks] 74) = w5 at B5 I5 S5 ⊢
          have O5 := Lib.hid (own_low OL.out (B5.out.mono (Nat.le_refl _)))
          generalize wr.heap.size = g5 at I5 ⊢
          obtain ⟨⟨y0, y1, y2, y3⟩, _⟩ := gcells4 I5.out
          have HZ := hN.out
          go_wp2_with (at_builtin; go_loud (refine wpList_append_lies _ rfl _ _ 40 rfl w1.heap.size 42 i0 z 7 128 Try.underlying40 hi0 hz0 hz1 hz2 hz3 (by decide) _ _ _ rfl (O5.out.alloc _) _ 1 1 [.int .i64 0, .string ⟨#[]⟩, .string ⟨#[]⟩, .slice none 0 0, .slice Ad x.dirs.length kd, .string ⟨#[]⟩, .slice As x.sels.len ks] rfl rfl (seven_news _ _ _ _ _ _ _ _ _ (by first | rfl | (simp; done))) (by intro y hy; simp at hy; rcases hy with rfl | rfl | rfl | rfl | rfl | rfl | rfl <;> rfl) (by decide) (by have := LH.out; unfold maxLen; omega) (by have := LH.out; omega) (by have := BL.out.size; have := B5.out.size; simp; omega) _ rfl ?_; intro g6 cap6 W6 hown6 hgrow hat hlt6; have HG6 := Lib.hid hgrow; have HO6 := Lib.hid hown6; clear hgrow hown6 hat))
          go_roundg g
          case measure => omega
          case rel =>
            refine ⟨q + 1, by omega, by go_num, Asd.intro ?_⟩
            rw [wtake _ HXX.out, ← List.append_assoc, HPP.out]
            exact WhI.more HB1.out BL.out OL.out FL.out SX.out (B5.out.alloc B5.out.size _) rfl HO6.out HG6.out
    | succ g =>
      have hqn : q < D.ops.length := by omega
      have hqn' : (q : Int) < (D.ops.length : Int) := by omega
      obtain ⟨x, hx⟩ : ∃ x, D.ops[q]? = some x := ⟨_, List.getElem?_eq_getElem hqn⟩
      obtain ⟨b, p, Av, kv, Ad, kd, As, ks, rfl, hlt, ⟨f0, f1, f2, f3, f4⟩, hd, hk, hS, hl⟩ := DD.out.op (BL.out.mono HB.out) hx
      have hbl : b < wr.heap.size := Nat.lt_of_lt_of_le hlt (Nat.le_trans HB.out BL.out.size)
      have SX : Hid (SelAt wr B (opSel x) [.int .i64 0, .string ⟨#[]⟩, .string ⟨#[]⟩, .slice none 0 0, .slice Ad x.dirs.length kd, .string ⟨#[]⟩, .slice As x.sels.len ks]) := Lib.hid (asSel_at hd hk hS hl)
      have HXX := Lib.hid hx
      have LL := (show ((D.ops.take q).map opSel).length = q by rw [List.length_map, List.length_take]; omega)
      obtain ⟨P, hP⟩ : ∃ P, (D.ops.take q).map opSel = P := ⟨_, rfl⟩
      rw [hP] at OL FL LL
      have HPP := Lib.hid hP
      have LH := Lib.hid LL
      clear LL
      clear hx hd hk hS hl HI hP
      go_upto_region 5 with fail
      clear f0 f1 f2 f3 f4 z0 z1
      have B5 := Lib.hid (gnew wr (.cells #[.int .i64 x.kind, .string x.name, .slice Av x.vars.length kv, .slice Ad x.dirs.length kd, .slice As x.sels.len ks] 45))
      have I5 := Lib.hid (heap_alloc_new wr (.cells #[.int .i64 x.kind, .string x.name, .slice Av x.vars.length kv, .slice Ad x.dirs.length kd, .slice As x.sels.len ks] 45))
      have S5 := Lib.hid (World.size_alloc (w := wr) (o := .cells #[.int .i64 x.kind, .string x.name, .slice Av x.vars.length kv, .slice Ad x.dirs.length kd, .slice As x.sels.len ks] 45))
      generalize wr.alloc (.cells #[.int .i64 x.kind, .string x.name, .slice Av x.vars.length kv, .slice Ad x.dirs.length kd, .slice As x.sels.len ks] 45) = w5 at B5 I5 S5 ⊢
      have O5 := Lib.hid (own_low OL.out (B5.out.mono (Nat.le_refl _)))
      generalize wr.heap.size = g5 at I5 ⊢
      obtain ⟨⟨y0, y1, y2, y3, y4⟩, _⟩ := gcells5 I5.out
      have HZ := hN.out
      go_wp2_with (at_builtin; go_loud (refine wpList_append_lies _ rfl _ _ 40 rfl w1.heap.size 42 i0 z 7 128 Try.underlying40 hi0 hz0 hz1 hz2 hz3 (by decide) _ _ _ rfl (O5.out.alloc _) _ 1 1 [.int .i64 0, .string ⟨#[]⟩, .string ⟨#[]⟩, .slice none 0 0, .slice Ad x.dirs.length kd, .string ⟨#[]⟩, .slice As x.sels.len ks] rfl rfl (seven_news _ _ _ _ _ _ _ _ _ (by first | rfl | (simp; done))) (by intro y hy; simp at hy; rcases hy with rfl | rfl | rfl | rfl | rfl | rfl | rfl <;> rfl) (by decide) (by have := LH.out; unfold maxLen; omega) (by have := LH.out; omega) (by have := BL.out.size; have := B5.out.size; simp; omega) _ rfl ?_; intro g6 cap6 W6 hown6 hgrow hat hlt6; have HG6 := Lib.hid hgrow; have HO6 := Lib.hid hown6; clear hgrow hown6 hat))
      go_roundg g
      case measure => omega
      case rel =>
        refine ⟨q + 1, by omega, by go_num, Asd.intro ?_⟩
        rw [wtake _ HXX.out, HPP.out]
        exact WhI.more HB1.out BL.out OL.out FL.out SX.out (B5.out.alloc B5.out.size _) rfl HO6.out HG6.out
end Go.Proofs.Ytgihnhdknphhpaa
