/- literal's once: no name twice. (gen_memb.py wrote it.) -/
import Derived.Test.YtcfdfgbobnocnaaGreatDoorLtEls
import Derived.Deep.AppendLies
namespace Go.Proofs.YtcfdfgbobnocnaaGreatDoor
open Go.RowKit

/-- A row of places that grows. -/
def PlR (B base : Nat) (W : World) (V : Value) (l : List PlT) : Prop := ∃ xs, W.ownsRow base 61 9 V l.length xs ∧ TLV W (fun b => b < B) (rowOf encPl l) xs
theorem PlR.nil (B base : Nat) (W : World) : PlR B base W (.slice none 0 0) [] := ⟨[], World.ownsRow_nil _ _ _ _, rfl⟩
theorem PlR.low {B base : Nat} {W W' : World} {V : Value} {l : List PlT} (h : PlR B base W V l) (hB : B ≤ W.heap.size) (hb : Below W.heap.size W W') : PlR B base W' V l := by
  obtain ⟨xs, h1, h2⟩ := h
  exact ⟨xs, own_low h1 hb, TLV.keep (fun b hlt => ⟨hlt, hb.block b (Nat.lt_of_lt_of_le hlt hB)⟩) h2⟩
theorem PlR.pls {B base : Nat} {W : World} {V : Value} {l : List PlT} (h : PlR B base W V l) : ∃ A c, V = .slice A l.length c ∧ l.length ≤ c ∧ PlsAt W B base l A := by
  obtain ⟨xs, h1, h2⟩ := h
  obtain ⟨A, c, rfl⟩ := shape_own h1
  refine ⟨A, c, rfl, ?_, fun j x hx => ?_⟩
  · rcases h1.2 with ⟨e, h0⟩ | ⟨g, cap, cur, e, hb, hg, hnc, _⟩
    · omega
    · simp only [Value.slice.injEq, true_and] at e
      obtain ⟨_, rfl⟩ := e
      exact hnc
  obtain ⟨cs, h3, h4⟩ := tlv_at encPl_len h2 hx
  rcases h1.2 with ⟨e, h0⟩ | ⟨g, cap, cur, e, hb, hg, _⟩
  · have := (List.getElem?_eq_some_iff.1 hx).1
    omega
  · simp only [Value.slice.injEq, true_and] at e
    obtain ⟨rfl, rfl⟩ := e
    refine ⟨g, 0, cs, rfl, hb, (Array.getElem?_eq_some_iff.1 hg).1, h3, fun i u hu => ?_⟩
    have := h1.cells (g := g) rfl (j * 9 + i) u (h4 i u hu)
    rw [add_at] at this
    rwa [Nat.zero_add] at this ⊢
theorem mem_at {w : World} {P : Nat → Prop} {l : List (ByteArray × VT)} {A : Option Addr} {q : Nat} {x : ByteArray × VT} (h : RowT w P (rowOf encPr l) A) (hx : l[q]? = some x) :
    ∃ b p A3 k3 A4 k4, A = some ⟨b, p, none⟩ ∧ P b ∧ (w.cell? ⟨b, p + q * 6, none⟩ = some (.string x.1) ∧ w.cell? ⟨b, p + q * 6 + 1, none⟩ = some (.int .i64 x.2.kd) ∧ w.cell? ⟨b, p + q * 6 + 2, none⟩ = some (.int .i64 x.2.nn) ∧ w.cell? ⟨b, p + q * 6 + 3, none⟩ = some (.string x.2.ss) ∧ w.cell? ⟨b, p + q * 6 + 4, none⟩ = some (.slice A3 x.2.ls.len k3) ∧ w.cell? ⟨b, p + q * 6 + 5, none⟩ = some (.slice A4 x.2.ms.len k4)) ∧
      x.1.size ≤ 9223372036854775807 ∧ TS w P (encV x.2) [.int .i64 x.2.kd, .int .i64 x.2.nn, .string x.2.ss, .slice A3 x.2.ls.len k3, .slice A4 x.2.ms.len k4] := by
  obtain ⟨b, p, cs, e, hb, hc, h1⟩ := rowOf_at 6 (fun x => by unfold encPr; rw [TrS.len, encV_len]) h hx
  unfold encPr at h1
  rw [TS] at h1
  obtain ⟨_, _, rfl, h2, h3⟩ := h1
  unfold TP at h2
  obtain ⟨rfl, h2⟩ := h2
  obtain ⟨A3, k3, A4, k4, rfl, _⟩ := encv_cells h3
  exact ⟨b, p, A3, k3, A4, k4, e, hb, ⟨hc 0 _ rfl, hc 1 _ rfl, hc 2 _ rfl, hc 3 _ rfl, hc 4 _ rfl, hc 5 _ rfl⟩, h2, h3⟩
theorem memsL_at {ps : List VarT} {l : List (ByteArray × VT)} {q : Nat} {x : ByteArray × VT} (h : l[q]? = some x) : memsL ps (l.take (q + 1)) = memsL ps (l.take q) ++ (if (paramD ps x.1).2 = true then [⟨(paramD ps x.1).1.tn, (paramD ps x.1).1.tl, (paramD ps x.1).1.tm, (paramD ps x.1).1.has, x.2⟩] else []) := by
  unfold memsL
  rw [List.take_add_one, h, List.flatMap_append]
  simp
theorem memsL_len (ps : List VarT) : ∀ l : List (ByteArray × VT), (memsL ps l).length ≤ l.length
  | [] => Nat.le_refl _
  | x :: t => by
    have := memsL_len ps t
    unfold memsL at this ⊢
    rw [List.flatMap_cons, List.length_append, List.length_cons]
    have h : (if (paramD ps x.1).2 = true then [(⟨(paramD ps x.1).1.tn, (paramD ps x.1).1.tl, (paramD ps x.1).1.tm, (paramD ps x.1).1.has, x.2⟩ : PlT)] else []).length ≤ 1 := by split <;> simp
    omega
theorem paramD_tn {w : World} {P : Nat → Prop} {l : List VarT} {A : Option Addr} (h : RowT w P (rowOf encVar l) A) (n : ByteArray) : (paramD l n).1.tn.size ≤ 9223372036854775807 := by
  induction l generalizing A with
  | nil => exact Nat.zero_le _
  | cons x t ih =>
    rw [rowOf] at h
    unfold RowT at h
    obtain ⟨b, o, cs, _, _, _, h1, h2⟩ := h
    rw [paramD]
    split
    · obtain ⟨_, _, _, _, _, _, h3⟩ := var_cells h1
      exact h3
    · exact ih h2
set_option maxRecDepth 100000 in
set_option maxHeartbeats 8000000 in
theorem members_any (ps : List VarT) (Ap : Option Addr) (cp : Nat) (ms : List (ByteArray × VT)) (A : Option Addr) (c : Nat) (w : World) (B : Nat) (P : Nat → Prop) (hB : B ≤ w.heap.size) (hP : ∀ b, P b → b < w.heap.size) (hps : ps.length ≤ 9223372036854775807) (hz : ms.length * 120 ≤ 140737488355328) (hR : RowT w P (rowOf encVar ps) Ap) (hM : RowT w (fun b => b < B) (rowOf encPr ms) A) :
    Calls Tryz.prog 62 #[.slice Ap ps.length cp, .slice A ms.length c] w (PlsO (memsL ps ms) B w) := by
  obtain ⟨i0, z, hi, hz0, hz1, hz2, hz3⟩ := cinfo_pl
  have HM := Lib.hid hM
  have HB := Lib.hid hB
  have HZ := Lib.hid hz
  have TN := Lib.hid (fun n => paramD_tn hR n)
  have PA := Lib.hid (fun (wx : World) (hb : Below w.heap.size w wx) (n : ByteArray) (hn : n.size ≤ 9223372036854775807) => param_any ps Ap cp n wx P (fun b h => Nat.lt_of_lt_of_le (hP b h) hb.size) hps hn (RowT.keep (fun b h => ⟨h, hb.block b (hP b h)⟩) _ _ hR))
  clear hM hB hP hR hps
  go_enter Tryz.func62, Tryz.ntmps62
  go_wp2_with fail
  go_loopg [5, 12] ms.length (fun gk v i wx => ∃ q : Nat, q + gk = ms.length ∧ i = .int .i64 q ∧ Aside (PlR B w.heap.size wx v (memsL ps (ms.take q)) ∧ Below w.heap.size w wx))
  case atStart => exact ⟨0, by omega, rfl, Blk.Aside.intro ⟨by rw [List.take_zero]; exact PlR.nil _ _ _, Below.refl _ _⟩⟩
  case round =>
    obtain ⟨q, hq, rfl, HX⟩ := hrel
    obtain ⟨hf, hb⟩ := HX.out
    have HF := Lib.hid hf
    have HBB := Lib.hid hb
    clear HX hf hb
    cases gk with
    | zero =>
      obtain rfl : q = ms.length := by omega
      go_wp2_with fail
      go_ret
      have hd := HF.out
      rw [List.take_length] at hd
      obtain ⟨A', c', rfl, hlc, hpl⟩ := hd.pls
      exact ⟨A', c', rfl, hlc, hpl, HBB.out⟩
    | succ gg =>
      have hqn : q < ms.length := by omega
      have hqn' : (q : Int) < (ms.length : Int) := by omega
      obtain ⟨x, hx⟩ : ∃ x, ms[q]? = some x := ⟨_, List.getElem?_eq_getElem hqn⟩
      have hBw := Nat.le_trans HB.out HBB.out.size
      obtain ⟨b, p, A3, k3, A4, k4, rfl, hb, ⟨g0, g1, g2, g3, g4, g5⟩, hnm, hT⟩ := mem_at (RowT.below (HBB.out.mono HB.out) HM.out) hx
      have hML := Lib.hid (memsL_at (ps := ps) hx)
      have hbl : b < wr.heap.size := Nat.lt_of_lt_of_le hb hBw
      have HT := Lib.hid hT
      have HNM := Lib.hid hnm
      clear hT hx hb hnm
      go_upto_region 5 with fail
      clear g0 g1 g2 g3 g4 g5
      have B2 := Lib.hid (dbelow_new wr (.cells #[.string x.1, .int .i64 x.2.kd, .int .i64 x.2.nn, .string x.2.ss, .slice A3 x.2.ls.len k3, .slice A4 x.2.ms.len k4] 73))
      have Y2 := Lib.hid (heap_alloc_new wr (.cells #[.string x.1, .int .i64 x.2.kd, .int .i64 x.2.nn, .string x.2.ss, .slice A3 x.2.ls.len k3, .slice A4 x.2.ms.len k4] 73))
      generalize wr.alloc (.cells #[.string x.1, .int .i64 x.2.kd, .int .i64 x.2.nn, .string x.2.ss, .slice A3 x.2.ls.len k3, .slice A4 x.2.ms.len k4] 73) = w2 at B2 Y2 ⊢
      obtain ⟨g2, hg2⟩ : ∃ g, wr.heap.size = g := ⟨_, rfl⟩
      have HG2 := Lib.hid hg2
      rw [hg2] at Y2 ⊢
      obtain ⟨⟨y0, y1, y2, y3, y4, y5⟩, _⟩ := six_cells Y2.out
      clear hg2
      go_wp2_with fail
      refine (PA.out _ (HBB.out.trans (B2.out.mono HBB.out.size)) _ HNM.out).mono ?_
      rintro e w3 ⟨E3, j3, E4, j4, rfl, hb3⟩
      have B3 := Lib.hid (B2.out.trans (hb3.mono B2.out.size))
      have Y3 := Lib.hid ((hb3.block g2 (Array.getElem?_eq_some_iff.1 Y2.out).1).trans Y2.out)
      have HTN := Lib.hid (TN.out x.1)
      generalize paramD ps x.1 = y at hML HTN ⊢
      obtain ⟨⟨ynm, ytn, ytl, ytm, yhas, yv⟩, ok⟩ := y
      dsimp only at hML HTN ⊢
      clear hb3 y0 y1 y2 y3 y4 y5
      go_upto_region 6 with fail
      have B4 := Lib.hid (B3.out.trans ((dbelow_new w3 (.cells #[.string ynm, .string ytn, .int .i64 ytl, .int .i64 ytm, .bool yhas, .int .i64 yv.kd, .int .i64 yv.nn, .string yv.ss, .slice E3 yv.ls.len j3, .slice E4 yv.ms.len j4] 69)).mono B3.out.size))
      have Y4 := (Below.heap_alloc w3 (.cells #[.string ynm, .string ytn, .int .i64 ytl, .int .i64 ytm, .bool yhas, .int .i64 yv.kd, .int .i64 yv.nn, .string yv.ss, .slice E3 yv.ls.len j3, .slice E4 yv.ms.len j4] 69) g2 (Array.getElem?_eq_some_iff.1 Y3.out).1).trans Y3.out
      have Z4 := heap_alloc_new w3 (.cells #[.string ynm, .string ytn, .int .i64 ytl, .int .i64 ytm, .bool yhas, .int .i64 yv.kd, .int .i64 yv.nn, .string yv.ss, .slice E3 yv.ls.len j3, .slice E4 yv.ms.len j4] 69)
      generalize w3.alloc (.cells #[.string ynm, .string ytn, .int .i64 ytl, .int .i64 ytm, .bool yhas, .int .i64 yv.kd, .int .i64 yv.nn, .string yv.ss, .slice E3 yv.ls.len j3, .slice E4 yv.ms.len j4] 69) = w4 at B4 Y4 Z4 ⊢
      generalize w3.heap.size = g4 at Z4 ⊢
      obtain ⟨⟨y0, y1, y2, y3, y4, y5⟩, _⟩ := six_cells Y4
      obtain ⟨⟨z0, z1, z2, z3, z4, _⟩, _⟩ := ten_cells Z4
      have F4 := Lib.hid (HF.out.low hBw B4.out)
      have D4 := Lib.hid (HBB.out.trans (B4.out.mono HBB.out.size))
      clear Y4 Z4 Y3 Y2
      cases ok with
      | false =>
        go_wp2_with fail
        go_roundg gg
        case measure => omega
        case rel => exact ⟨q + 1, by omega, by go_num, Blk.Aside.intro ⟨by rw [hML.out, if_neg (by simp), List.append_nil]; exact F4.out, D4.out⟩⟩
      | true =>
        obtain ⟨xs, ho, hv⟩ := F4.out
        obtain ⟨Ao, co, rfl⟩ := shape_own ho
        have HO := Lib.hid ho
        have HV := Lib.hid hv
        have hml := Lib.hid (memsL_len ps (ms.take q))
        have hz := HZ.out
        have hll : (memsL ps (ms.take q)).length ≤ q := by have h1 := hml.out; rw [List.length_take] at h1; omega
        have hws := D4.out.size
        clear ho hv
        go_wp2_with (at_builtin; go_loud (refine wpList_append_lies _ rfl _ _ 90 rfl w.heap.size 61 i0 z 9 120 Tryz.underlying90 hi hz0 hz1 hz2 hz3 (by decide) _ (memsL ps (ms.take q)).length xs rfl (HO.out.alloc _) _ 1 1 [.string ytn, .int .i64 ytl, .int .i64 ytm, .bool yhas, .int .i64 x.2.kd, .int .i64 x.2.nn, .string x.2.ss, .slice A3 x.2.ls.len k3, .slice A4 x.2.ms.len k4] rfl rfl (nine_news _ _ _ _ _ _ _ _ _ _ _ (by first | rfl | (simp; done))) (by intro y hy; simp at hy; rcases hy with rfl | rfl | rfl | rfl | rfl | rfl | rfl | rfl | rfl <;> rfl) (by decide) (by unfold maxLen; omega) (by omega) (by simp; omega) _ rfl ?_; intro g6 cap6 w6 hown6 hgrow hat hlt6; have HG6 := Lib.hid hgrow; have HO6 := Lib.hid hown6; clear hgrow hown6 hat))
        go_roundg gg
        case measure => omega
        case rel =>
          have D6 := (D4.out.alloc hws _).grown HG6.out (by simp; omega) (fun k hk => (HO.out.lt k hk).1)
          refine ⟨q + 1, by omega, by go_num, Blk.Aside.intro ⟨?_, D6⟩⟩
          rw [hML.out, if_pos (by simp)]
          have hk : ∀ b, b < B → w6.heap[b]? = w4.heap[b]? := fun b hb => (HG6.out.block b (by have := HB.out; simp; omega) (fun e => by have := (HO.out.lt b e.symm).1; have := HB.out; omega)).trans (Below.heap_alloc w4 _ b (by have := HB.out; omega))
          refine ⟨_, by rw [List.length_append]; exact HO6.out, ?_⟩
          rw [rowOf_snoc]
          exact TLV.snoc (pl_ts (p := ⟨ytn, ytl, ytm, yhas, x.2⟩) HTN.out (TS.keep (P' := fun b => b < B) (fun b hb => ⟨hb, (hk b hb).trans (B4.out.block b (Nat.lt_of_lt_of_le hb hBw))⟩) _ _ HT.out)) (TLV.keep (fun b hb => ⟨hb, hk b hb⟩) HV.out)
end Go.Proofs.YtcfdfgbobnocnaaGreatDoor
namespace Go.Proofs.YtcfdfgbobnocnaaGreatDoor
open Go.RowKit

def knownB (ps : List VarT) (ms : List (ByteArray × VT)) : Bool := ms.all fun x => (paramD ps x.1).2
theorem knownB_at {ps : List VarT} {l : List (ByteArray × VT)} {q : Nat} {x : ByteArray × VT} (h : l[q]? = some x) : knownB ps (l.drop q) = ((paramD ps x.1).2 && knownB ps (l.drop (q + 1))) := by
  have hq : q < l.length := (List.getElem?_eq_some_iff.1 h).1
  have e : l[q] = x := (List.getElem?_eq_some_iff.1 h).2
  unfold knownB
  rw [List.drop_eq_getElem_cons hq, e, List.all_cons]
set_option maxRecDepth 100000 in
set_option maxHeartbeats 8000000 in
theorem known_any (ps : List VarT) (Ap : Option Addr) (cp : Nat) (ms : List (ByteArray × VT)) (A : Option Addr) (c : Nat) (w : World) (B : Nat) (P : Nat → Prop) (hB : B ≤ w.heap.size) (hP : ∀ b, P b → b < w.heap.size) (hps : ps.length ≤ 9223372036854775807) (hl : ms.length ≤ 9223372036854775807) (hR : RowT w P (rowOf encVar ps) Ap) (hM : RowT w (fun b => b < B) (rowOf encPr ms) A) :
    Calls Tryz.prog 72 #[.slice Ap ps.length cp, .slice A ms.length c] w fun e w' => e = .returned (.bool (knownB ps ms)) ∧ Below w.heap.size w w' := by
  have HM := Lib.hid hM
  have HB := Lib.hid hB
  have PA := Lib.hid (fun (wx : World) (hb : Below w.heap.size w wx) (n : ByteArray) (hn : n.size ≤ 9223372036854775807) => param_any ps Ap cp n wx P (fun b h => Nat.lt_of_lt_of_le (hP b h) hb.size) hps hn (RowT.keep (fun b h => ⟨h, hb.block b (hP b h)⟩) _ _ hR))
  clear hM hB hP hR hps
  go_enter Tryz.func72, Tryz.ntmps72
  go_wp2_with fail
  go_loopg [11] ms.length (fun gk i wx => ∃ q : Nat, q + gk = ms.length ∧ i = .int .i64 q ∧ Aside (knownB ps (ms.drop q) = knownB ps ms ∧ Below w.heap.size w wx))
  case atStart => exact ⟨0, by omega, rfl, Blk.Aside.intro ⟨rfl, Below.refl _ _⟩⟩
  case round =>
    obtain ⟨q, hq, rfl, HX⟩ := hrel
    obtain ⟨hf, hb⟩ := HX.out
    have HF := Lib.hid hf
    have HBB := Lib.hid hb
    clear HX hf hb
    cases gk with
    | zero =>
      obtain rfl : q = ms.length := by omega
      go_wp2_with fail
      go_ret
      exact ⟨by rw [← HF.out, List.drop_length]; rfl, HBB.out⟩
    | succ gg =>
      have hqn : q < ms.length := by omega
      have hqn' : (q : Int) < (ms.length : Int) := by omega
      obtain ⟨x, hx⟩ : ∃ x, ms[q]? = some x := ⟨_, List.getElem?_eq_getElem hqn⟩
      have hBw := Nat.le_trans HB.out HBB.out.size
      obtain ⟨b, p, A3, k3, A4, k4, rfl, hb, ⟨g0, g1, g2, g3, g4, g5⟩, hnm, hT⟩ := mem_at (RowT.below (HBB.out.mono HB.out) HM.out) hx
      have hK := Lib.hid (knownB_at (ps := ps) hx)
      have hbl : b < wr.heap.size := Nat.lt_of_lt_of_le hb hBw
      have HNM := Lib.hid hnm
      clear hT hx hb hnm
      go_upto_region 4 with fail
      clear g0 g1 g2 g3 g4 g5
      have B2 := Lib.hid (dbelow_new wr (.cells #[.string x.1, .int .i64 x.2.kd, .int .i64 x.2.nn, .string x.2.ss, .slice A3 x.2.ls.len k3, .slice A4 x.2.ms.len k4] 73))
      have Y2 := heap_alloc_new wr (.cells #[.string x.1, .int .i64 x.2.kd, .int .i64 x.2.nn, .string x.2.ss, .slice A3 x.2.ls.len k3, .slice A4 x.2.ms.len k4] 73)
      generalize wr.alloc (.cells #[.string x.1, .int .i64 x.2.kd, .int .i64 x.2.nn, .string x.2.ss, .slice A3 x.2.ls.len k3, .slice A4 x.2.ms.len k4] 73) = w2 at B2 Y2 ⊢
      generalize hg2 : wr.heap.size = g2 at Y2 ⊢
      obtain ⟨⟨y0, y1, y2, y3, y4, y5⟩, _⟩ := six_cells Y2
      clear Y2 hg2
      go_wp2_with fail
      refine (PA.out _ (HBB.out.trans (B2.out.mono HBB.out.size)) _ HNM.out).mono ?_
      rintro e w3 ⟨E3, j3, E4, j4, rfl, hb3⟩
      have B3 := Lib.hid (HBB.out.trans ((B2.out.trans (hb3.mono B2.out.size)).mono HBB.out.size))
      generalize paramD ps x.1 = y at hK ⊢
      obtain ⟨⟨ynm, ytn, ytl, ytm, yhas, yv⟩, ok⟩ := y
      dsimp only at hK ⊢
      clear hb3 y0 y1 y2 y3 y4 y5
      go_upto_region 5 with fail
      have B4 := Lib.hid (B3.out.trans ((dbelow_new w3 (.cells #[.string ynm, .string ytn, .int .i64 ytl, .int .i64 ytm, .bool yhas, .int .i64 yv.kd, .int .i64 yv.nn, .string yv.ss, .slice E3 yv.ls.len j3, .slice E4 yv.ms.len j4] 69)).mono B3.out.size))
      generalize w3.alloc (.cells #[.string ynm, .string ytn, .int .i64 ytl, .int .i64 ytm, .bool yhas, .int .i64 yv.kd, .int .i64 yv.nn, .string yv.ss, .slice E3 yv.ls.len j3, .slice E4 yv.ms.len j4] 69) = w4 at B4 ⊢
      cases ok with
      | false =>
        go_wp2_with fail
        go_ret
        exact ⟨by rw [← HF.out, hK.out]; rfl, B4.out⟩
      | true =>
        go_wp2_with fail
        go_roundg gg
        case measure => omega
        case rel => exact ⟨q + 1, by omega, by go_num, Blk.Aside.intro ⟨by rw [← HF.out, hK.out]; rfl, B4.out⟩⟩
end Go.Proofs.YtcfdfgbobnocnaaGreatDoor
namespace Go.Proofs.YtcfdfgbobnocnaaGreatDoor
open Go.RowKit

def onceT : List ByteArray → List ByteArray → Bool
  | _, [] => true
  | seen, s :: t => if hasN seen s = true then false else onceT (seen ++ [s]) t
def onceB (ms : List (ByteArray × VT)) : Bool := onceT [] (ms.map (·.1))
theorem onceT_at {l : List ByteArray} {q : Nat} {s : ByteArray} (h : l[q]? = some s) : onceT (l.take q) (l.drop q) = if hasN (l.take q) s = true then false else onceT (l.take (q + 1)) (l.drop (q + 1)) := by
  have hq : q < l.length := (List.getElem?_eq_some_iff.1 h).1
  have e : l[q] = s := (List.getElem?_eq_some_iff.1 h).2
  rw [List.drop_eq_getElem_cons hq, e, onceT, List.take_add_one, h]
  rfl
set_option maxRecDepth 100000 in
set_option maxHeartbeats 8000000 in
theorem lonce_any (ms : List (ByteArray × VT)) (A : Option Addr) (c : Nat) (w : World) (B : Nat) (hB : B ≤ w.heap.size) (hz : ms.length < maxLen) (hM : RowT w (fun b => b < B) (rowOf encPr ms) A) :
    Calls Tryz.prog 71 #[.slice A ms.length c] w fun e w' => e = .returned (.bool (onceB ms)) ∧ Below w.heap.size w w' := by
  have hmm := @run_makeMap Tryz.prog
  have HM := Lib.hid hM
  have HB := Lib.hid hB
  have HZ := Lib.hid hz
  have hl : ms.length ≤ 9223372036854775807 := by unfold maxLen at hz; omega
  have B0 := Lib.hid (dbelow_new w (.map #[] 0))
  have M0 := Lib.hid (World.ownsMap_made w Tryz.prog 9 (plainElem (H := Unit) Tryz.prog 4))
  clear hM hB hz
  go_enter Tryz.func71, Tryz.ntmps71
  go_wp2_with fail
  clear hmm
  go_loopg [9] ms.length (fun gk i wx => ∃ q : Nat, q + gk = ms.length ∧ i = .int .i64 q ∧ Aside (onceT ((ms.map (·.1)).take q) ((ms.map (·.1)).drop q) = onceB ms ∧ (∃ D : DataW Unit, wx.ownsMap Tryz.prog 9 (plainElem Tryz.prog 4) w.heap.size q D ∧ SeenD D ((ms.map (·.1)).take q)) ∧ Below w.heap.size w wx ∧ w.heap.size < wx.heap.size))
  case atStart => exact ⟨0, by omega, rfl, Blk.Aside.intro ⟨rfl, ⟨_, M0.out, SeenD.nil⟩, B0.out, by simp⟩⟩
  case round =>
    obtain ⟨q, hq, rfl, HX⟩ := hrel
    obtain ⟨hf, ⟨D, hm, hD⟩, hb, hlt0⟩ := HX.out
    have HF := Lib.hid hf
    have HMP := Lib.hid hm
    have HD := Lib.hid hD
    have HBB := Lib.hid hb
    clear HX hf hb hm hD
    cases gk with
    | zero =>
      obtain rfl : q = ms.length := by omega
      clear HMP HD
      go_wp2_with fail
      go_ret
      exact ⟨by rw [← HF.out, List.drop_of_length_le (by rw [List.length_map]; exact Nat.le_refl _)]; rfl, HBB.out⟩
    | succ gg =>
      have hqn : q < ms.length := by omega
      have hqn' : (q : Int) < (ms.length : Int) := by omega
      obtain ⟨x, hx⟩ : ∃ x, ms[q]? = some x := ⟨_, List.getElem?_eq_getElem hqn⟩
      have hBw := Nat.le_trans HB.out HBB.out.size
      obtain ⟨b, p, A3, k3, A4, k4, rfl, hb, ⟨g0, g1, g2, g3, g4, g5⟩, hnm, hT⟩ := mem_at (RowT.below (HBB.out.mono HB.out) HM.out) hx
      have hxn : (ms.map (·.1))[q]? = some x.1 := by rw [List.getElem?_map, hx]; rfl
      have hK := Lib.hid (onceT_at hxn)
      have hTK := Lib.hid (show (ms.map (·.1)).take (q + 1) = (ms.map (·.1)).take q ++ [x.1] by rw [List.take_add_one, hxn]; rfl)
      have hbl : b < wr.heap.size := Nat.lt_of_lt_of_le hb hBw
      have hkey := WideMaps.keyOf_string_mk (P := Tryz.prog) Tryz.underlying9 (s := x.1) (by unfold maxLen; omega)
      clear hT hx hb hxn
      go_upto_region 5 with fail
      clear g0 g1 g2 g3 g4 g5
      have B2 := Lib.hid (dbelow_new wr (.cells #[.string x.1, .int .i64 x.2.kd, .int .i64 x.2.nn, .string x.2.ss, .slice A3 x.2.ls.len k3, .slice A4 x.2.ms.len k4] 73))
      have Y2 := heap_alloc_new wr (.cells #[.string x.1, .int .i64 x.2.kd, .int .i64 x.2.nn, .string x.2.ss, .slice A3 x.2.ls.len k3, .slice A4 x.2.ms.len k4] 73)
      have M2 := Lib.hid (HMP.out.alloc (.cells #[.string x.1, .int .i64 x.2.kd, .int .i64 x.2.nn, .string x.2.ss, .slice A3 x.2.ls.len k3, .slice A4 x.2.ms.len k4] 73))
      generalize wr.alloc (.cells #[.string x.1, .int .i64 x.2.kd, .int .i64 x.2.nn, .string x.2.ss, .slice A3 x.2.ls.len k3, .slice A4 x.2.ms.len k4] 73) = w2 at B2 Y2 M2 ⊢
      have hgl : w.heap.size < wr.heap.size := hlt0
      generalize hg2 : wr.heap.size = g2 at Y2 hgl ⊢
      obtain ⟨⟨y0, y1, y2, y3, y4, y5⟩, _⟩ := six_cells Y2
      have D2 := Lib.hid (HBB.out.trans (B2.out.mono HBB.out.size))
      have hs2 := B2.out.size
      have lk := seen_look M2.out HD.out x.1 (by unfold maxLen; omega)
      have HY2 := Lib.hid Y2
      clear Y2
      cases e : hasN ((ms.map (·.1)).take q) x.1 with
      | true =>
        rw [e] at lk
        clear hkey
        go_wp2_with fail
        go_ret
        exact ⟨by rw [← HF.out, hK.out, if_pos e]; rfl, D2.out⟩
      | false =>
        rw [e] at lk
        have HMAX : q < maxLen := by have := HZ.out; omega
        go_wp2_with (at_mapUpdate; refine wpList_mapUpdate_own _ rfl _ _ _ 75 rfl 9 4 (Maps.string_keyed Tryz.underlying9) Tryz.underlying75 _ w.heap.size q D rfl M2.out HMAX _ _ _ rfl rfl hkey (.lit (.bool true)) [] (plainElem_bool Tryz.underlying4 true) ?_; intro w1 hm1 hg1; have HM1 := Lib.hid hm1; have HG1 := Lib.hid hg1; clear hm1 hg1)
        have B1 := Lib.hid (below_grown (B := w.heap.size) D2.out HG1.out D2.out.size (fun b hb => by injection hb with hb; omega))
        have hs1 := HG1.out.size
        go_roundg gg
        case measure => omega
        case rel => exact ⟨q + 1, by omega, by go_num, Blk.Aside.intro ⟨by rw [← HF.out, hK.out, if_neg (by rw [e]; decide)], ⟨_, HM1.out, by rw [hTK.out]; exact HD.out.put x.1⟩, B1.out, by omega⟩⟩
end Go.Proofs.YtcfdfgbobnocnaaGreatDoor
