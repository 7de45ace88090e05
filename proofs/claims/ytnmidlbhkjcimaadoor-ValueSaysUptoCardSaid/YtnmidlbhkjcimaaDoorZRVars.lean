/- The walk of the document's vars: what is asked of it. (gen_rvars.py wrote it.) -/
import Derived.Test.YtnmidlbhkjcimaaDoorVTexts
namespace Go.Proofs.YtnmidlbhkjcimaaDoor
open Go.RowKit

def RVarsC (v : VT) : Prop := ∀ (c0 c1 c2 c3 c4 : Value) (w : World) (B lo : Nat) (V : Value) (out : List ByteArray), B ≤ lo → lo ≤ w.heap.size → VAt w B v c0 c1 c2 c3 c4 → SR lo w V out → out.length + sizeV v ≤ 20000 →
  Calls Tryd.prog 33 #[.agg #[c0, c1, c2, c3, c4], V] w fun e w' => ∃ V', e = .returned V' ∧ SR lo w' V' (varsV v out) ∧ Grew w w' V V'
theorem vars_kids (k n : Int) (s : ByteArray) (l : VL) (m : VM) (out : List ByteArray) : varsV (.mk k n s l m) out = (allL (VT.kids (.mk k n s l m))).foldl addN ((if k = 8 then [s] else [] : List ByteArray).foldl addN out) := by
  unfold varsV
  rw [all_kids, List.foldl_append]
end Go.Proofs.YtnmidlbhkjcimaaDoor
/- The walk of the document's vars: lists. (gen_rvars.py wrote it.) -/
namespace Go.Proofs.YtnmidlbhkjcimaaDoor
open Go.RowKit

set_option maxRecDepth 100000 in
set_option maxHeartbeats 8000000 in
theorem rvars_6 (N : Nat) (hN : N + 1 ≤ 9000) (H : ∀ u, sizeV u ≤ N → RVarsC u) (n : Int) (s : ByteArray) (l : VL) (m : VM) (hu : sizeV (.mk 6 n s l m) ≤ N + 1) : RVarsC (.mk 6 n s l m) := by
  intro c0 c1 c2 c3 c4 w B lo V out hBl hls hv hs hr
  have HBL := Lib.hid hBl
  have HLS := Lib.hid hls
  have hol : out.length ≤ 20000 := by omega
  unfold VAt at hv
  obtain ⟨rfl, rfl, rfl, hsl, ⟨A, c, rfl, hl, hL⟩, A', c', rfl, hm, hM⟩ := hv
  have HL := Lib.hid hL
  have HM := Lib.hid hM
  obtain ⟨An, cn, hVe, hst⟩ := hs.strs
  have hOB : ∀ g, V.ownBlock = some g → g < w.heap.size := fun g hg => (hs.lt g hg).2
  obtain ⟨V0, hV0⟩ : ∃ V0, V = V0 := ⟨_, rfl⟩
  obtain ⟨w1, hw1⟩ : ∃ w1, w.alloc (.cells #[.int .i64 6, .int .i64 n, .string s, .slice A l.len c, .slice A' m.len c'] 25) = w1 := ⟨_, rfl⟩
  have hsz1 : w1.heap.size = w.heap.size + 1 := by rw [← hw1]; simp
  have hab : Below w.heap.size w w1 := by rw [← hw1]; exact (Below.refl _ _).alloc (Nat.le_refl _) _
  have HBX := Lib.hid (fun (wx : World) (nm : Value) (h : Grew w1 wx V0 nm) => h.five (g := w.heap.size) (o := 0) (c0 := .int .i64 6) (c1 := .int .i64 n) (c2 := .string s) (c3 := .slice A l.len c) (c4 := .slice A' m.len c') (by omega) (fun e => by rw [← hV0] at e; have := hOB _ e; omega) (by rw [← hw1]; exact five_at_new w _ _ _ _ _ _ rfl))
  have HLOW := Lib.hid (fun (wx : World) (nm : Value) (h : Grew w1 wx V0 nm) => (hab.mono (Nat.le_trans hBl hls)).trans (SR.base (B := B) (by rw [← hV0]; exact hs.low hab) h hBl (by omega)))
  have HEND := Lib.hid (fun (wx : World) (nm : Value) (h : Grew w1 wx V0 nm) => Grew.low hab h)
  have hs1 : SR lo w1 V0 out := by rw [← hV0]; exact hs.low hab
  have P0 := Lib.hid (And.intro hs1 (Grew.of_below (V := V0) (Below.refl w1.heap.size w1)))
  have hst1 : Blk.StrsAt w1 w1.heap.size An out.length out := (hst.below hab).more hab.size
  subst hV0
  subst hVe
  subst hw1
  have HS := Lib.hid H
  have hszz : sizeL l ≤ N ∧ sizeL m.vals ≤ N ∧ out.length + sizeL l ≤ 20000 ∧ out.length + sizeL m.vals ≤ 20000 := by
    have := sizeL_vals m
    rw [sizeV] at hu hr
    omega
  obtain ⟨hsL, hsM, hrL, hrM⟩ := hszz
  have hres : Hid ((allL l).foldl addN out = varsV (.mk 6 n s l m) out) := Lib.hid (by rw [vars_kids, kids_list]; rfl)
  generalize VT.mk 6 n s l m = U at *
  clear H hBl hls hL hM hu hs hr hst hOB hs1 hab hsz1 hst1 hsl
  generalize m.len = ml at *
  have e7 : ((6 : Int) == 7) = false := rfl
  clear hsM hrM
  go_enter Tryd.func33, Tryd.ntmps33
  go_wp2_with fail
  go_loopg [1, 5] l.len (fun g nm i wx => ∃ q : Nat, q + g = l.len ∧ i = .int .i64 q ∧ Aside (SR lo wx nm ((allTo l q).foldl addN out) ∧ Grew (w.alloc (.cells #[.int .i64 6, .int .i64 n, .string s, .slice A l.len c, .slice A' ml c'] 25)) wx (.slice An out.length cn) nm))
  case atStart => exact ⟨0, by omega, rfl, vaside ⟨by rw [allTo_zero]; exact P0.out.1, P0.out.2⟩⟩
  case round =>
    obtain ⟨q, hq, rfl, HA⟩ := hrel
    have PX := Lib.hid HA.out
    clear HA P0
    obtain ⟨f0, f1, f2, f3, f4⟩ := HBX.out _ _ PX.out.2
    cases gk with
    | zero =>
      obtain rfl : q = l.len := by omega
      have hF : Hid ((allTo l l.len).foldl addN out = varsV U out) := Lib.hid (by rw [allTo_all]; exact hres.out)
      rw [hF.out] at PX
      clear hF
      go_wp2_with fail
      go_loopg [1, 6] 0 (fun g nm i wx => g = 0 ∧ i = .int .i64 0 ∧ Aside (SR lo wx nm (varsV U out) ∧ Grew (w.alloc (.cells #[.int .i64 6, .int .i64 n, .string s, .slice A l.len c, .slice A' ml c'] 25)) wx (.slice An out.length cn) nm))
      case atStart => exact ⟨rfl, rfl, vaside PX.out⟩
      case round =>
        obtain ⟨hg0, rfl, HA⟩ := hrel
        have PY := Lib.hid HA.out
        clear HA PX
        subst hg0
        obtain ⟨f0, f1, f2, f3, f4⟩ := HBX.out _ _ PY.out.2
        by_cases hz : (0 : Int) < (ml : Int)
        · go_wp2_with fail

          go_ret
          exact ⟨_, rfl, PY.out.1, HEND.out _ _ PY.out.2⟩
        · go_wp2_with fail

          go_ret
          exact ⟨_, rfl, PY.out.1, HEND.out _ _ PY.out.2⟩
    | succ g =>
      have hqn : q < l.len := by omega
      have hqn' : (q : Int) < (l.len : Int) := by omega
      obtain ⟨x, hx⟩ := VL.get_lt hqn
      have hxv := hx
      obtain ⟨b, o, d0, d1, d2, d3, d4, hA, hblt, hF, hV⟩ := LAt.at HL.out hx
      subst hA
      rw [Nat.zero_add] at hF
      have hxs := sizeL_get hxv
      have hrm := allTo_room hxv
      have hln := adds_len (allTo l q) out
      have hnx := Lib.hid (varsL_snoc hxv out)
      have hlow := HLOW.out _ _ PX.out.2
      obtain ⟨e0, e1, e2, e3, e4⟩ := hF.below hlow hblt
      have C := Lib.hid (HS.out x (by omega) d0 d1 d2 d3 d4 _ B lo _ _ HBL.out (Nat.le_trans HLS.out (Nat.le_trans (by simp) PX.out.2.1.size)) (VAt.below hlow _ _ _ _ _ _ hV) PX.out.1 (by omega))
      obtain ⟨xk, xn, xs, xl, xm⟩ := x
      unfold VAt at hV
      obtain ⟨rfl, rfl, rfl, _, ⟨A3, c3', rfl, _, _⟩, A4, c4', rfl, _, _⟩ := hV
      clear hx hxv hF hlow hxs hrm hln
      go_wp2_with fail
      refine C.out.mono ?_
      rintro e w2 ⟨V2, rfl, hs2, hg2⟩
      have P2 := Lib.hid (And.intro hs2 (PX.out.2.trans hg2))
      clear hs2 hg2 C e0 e1 e2 e3 e4 f0 f1 f2 f3 f4
      go_wp2_with fail
      go_roundg g
      case measure => omega
      case rel => exact ⟨q + 1, by omega, by go_num, vaside ⟨by rw [hnx.out]; exact P2.out.1, P2.out.2⟩⟩
end Go.Proofs.YtnmidlbhkjcimaaDoor
/- The walk of the document's vars: maps. (gen_rvars.py wrote it.) -/
namespace Go.Proofs.YtnmidlbhkjcimaaDoor
open Go.RowKit

set_option maxRecDepth 100000 in
set_option maxHeartbeats 8000000 in
theorem rvars_7 (N : Nat) (hN : N + 1 ≤ 9000) (H : ∀ u, sizeV u ≤ N → RVarsC u) (n : Int) (s : ByteArray) (l : VL) (m : VM) (hu : sizeV (.mk 7 n s l m) ≤ N + 1) : RVarsC (.mk 7 n s l m) := by
  intro c0 c1 c2 c3 c4 w B lo V out hBl hls hv hs hr
  have HBL := Lib.hid hBl
  have HLS := Lib.hid hls
  have hol : out.length ≤ 20000 := by omega
  unfold VAt at hv
  obtain ⟨rfl, rfl, rfl, hsl, ⟨A, c, rfl, hl, hL⟩, A', c', rfl, hm, hM⟩ := hv
  have HL := Lib.hid hL
  have HM := Lib.hid hM
  obtain ⟨An, cn, hVe, hst⟩ := hs.strs
  have hOB : ∀ g, V.ownBlock = some g → g < w.heap.size := fun g hg => (hs.lt g hg).2
  obtain ⟨V0, hV0⟩ : ∃ V0, V = V0 := ⟨_, rfl⟩
  obtain ⟨w1, hw1⟩ : ∃ w1, w.alloc (.cells #[.int .i64 7, .int .i64 n, .string s, .slice A l.len c, .slice A' m.len c'] 25) = w1 := ⟨_, rfl⟩
  have hsz1 : w1.heap.size = w.heap.size + 1 := by rw [← hw1]; simp
  have hab : Below w.heap.size w w1 := by rw [← hw1]; exact (Below.refl _ _).alloc (Nat.le_refl _) _
  have HBX := Lib.hid (fun (wx : World) (nm : Value) (h : Grew w1 wx V0 nm) => h.five (g := w.heap.size) (o := 0) (c0 := .int .i64 7) (c1 := .int .i64 n) (c2 := .string s) (c3 := .slice A l.len c) (c4 := .slice A' m.len c') (by omega) (fun e => by rw [← hV0] at e; have := hOB _ e; omega) (by rw [← hw1]; exact five_at_new w _ _ _ _ _ _ rfl))
  have HLOW := Lib.hid (fun (wx : World) (nm : Value) (h : Grew w1 wx V0 nm) => (hab.mono (Nat.le_trans hBl hls)).trans (SR.base (B := B) (by rw [← hV0]; exact hs.low hab) h hBl (by omega)))
  have HEND := Lib.hid (fun (wx : World) (nm : Value) (h : Grew w1 wx V0 nm) => Grew.low hab h)
  have hs1 : SR lo w1 V0 out := by rw [← hV0]; exact hs.low hab
  have P0 := Lib.hid (And.intro hs1 (Grew.of_below (V := V0) (Below.refl w1.heap.size w1)))
  have hst1 : Blk.StrsAt w1 w1.heap.size An out.length out := (hst.below hab).more hab.size
  subst hV0
  subst hVe
  subst hw1
  have HS := Lib.hid H
  have hszz : sizeL l ≤ N ∧ sizeL m.vals ≤ N ∧ out.length + sizeL l ≤ 20000 ∧ out.length + sizeL m.vals ≤ 20000 := by
    have := sizeL_vals m
    rw [sizeV] at hu hr
    omega
  obtain ⟨hsL, hsM, hrL, hrM⟩ := hszz
  have hres : Hid ((allL m.vals).foldl addN out = varsV (.mk 7 n s l m) out) := Lib.hid (by rw [vars_kids, kids_map]; rfl)
  generalize VT.mk 7 n s l m = U at *
  clear H hBl hls hL hM hu hs hr hst hOB hs1 hab hsz1 hst1 hsl
  generalize l.len = ll at *
  have e6 : ((7 : Int) == 6) = false := rfl
  clear hsL hrL
  go_enter Tryd.func33, Tryd.ntmps33
  go_wp2_with fail
  go_loopg [1, 5] 0 (fun g nm i wx => g = 0 ∧ i = .int .i64 0 ∧ Aside (SR lo wx nm (out) ∧ Grew (w.alloc (.cells #[.int .i64 7, .int .i64 n, .string s, .slice A ll c, .slice A' m.len c'] 25)) wx (.slice An out.length cn) nm))
  case atStart => exact ⟨rfl, rfl, vaside P0.out⟩
  case round =>
    obtain ⟨hg0, rfl, HA⟩ := hrel
    have PX := Lib.hid HA.out
    clear HA P0
    subst hg0
    obtain ⟨f0, f1, f2, f3, f4⟩ := HBX.out _ _ PX.out.2
    by_cases hz : (0 : Int) < (ll : Int)
    · go_wp2_with fail
      go_loopg [1, 6] m.len (fun g nm i wx => ∃ q : Nat, q + g = m.len ∧ i = .int .i64 q ∧ Aside (SR lo wx nm ((allTo m.vals q).foldl addN out) ∧ Grew (w.alloc (.cells #[.int .i64 7, .int .i64 n, .string s, .slice A ll c, .slice A' m.len c'] 25)) wx (.slice An out.length cn) nm))
      case atStart => exact ⟨0, by omega, rfl, vaside ⟨by rw [allTo_zero]; exact PX.out.1, PX.out.2⟩⟩
      case round =>
        obtain ⟨q, hq, rfl, HA⟩ := hrel
        have PY := Lib.hid HA.out
        clear HA PX
        obtain ⟨f0, f1, f2, f3, f4⟩ := HBX.out _ _ PY.out.2
        cases gk with
        | zero =>
          obtain rfl : q = m.len := by omega
          have hF : Hid ((allTo m.vals m.len).foldl addN out = varsV U out) := Lib.hid (by rw [← VM.len_vals, allTo_all]; exact hres.out)
          rw [hF.out] at PY
          clear hF
          go_wp2_with fail

          go_ret
          exact ⟨_, rfl, PY.out.1, HEND.out _ _ PY.out.2⟩
        | succ g =>
          have hqn : q < m.len := by omega
          have hqn' : (q : Int) < (m.len : Int) := by omega
          obtain ⟨⟨nm', x⟩, hx⟩ := VM.get_lt hqn
          have hxv := VM.get_vals hx
          obtain ⟨b, o, d0, d1, d2, d3, d4, hA, hblt, _, _, hF, hV⟩ := MAt.at HM.out hx
          subst hA
          rw [Nat.zero_add] at hF
          have hxs := sizeL_get hxv
          have hrm := allTo_room hxv
          have hln := adds_len (allTo m.vals q) out
          have hnx := Lib.hid (varsL_snoc hxv out)
          have hlow := HLOW.out _ _ PY.out.2
          obtain ⟨e0, e1, e2, e3, e4⟩ := hF.below hlow hblt
          have C := Lib.hid (HS.out x (by omega) d0 d1 d2 d3 d4 _ B lo _ _ HBL.out (Nat.le_trans HLS.out (Nat.le_trans (by simp) PY.out.2.1.size)) (VAt.below hlow _ _ _ _ _ _ hV) PY.out.1 (by omega))
          obtain ⟨xk, xn, xs, xl, xm⟩ := x
          unfold VAt at hV
          obtain ⟨rfl, rfl, rfl, _, ⟨A3, c3', rfl, _, _⟩, A4, c4', rfl, _, _⟩ := hV
          clear hx hxv hF hlow hxs hrm hln
          go_wp2_with fail
          refine C.out.mono ?_
          rintro e w2 ⟨V2, rfl, hs2, hg2⟩
          have P2 := Lib.hid (And.intro hs2 (PY.out.2.trans hg2))
          clear hs2 hg2 C e0 e1 e2 e3 e4 f0 f1 f2 f3 f4
          go_wp2_with fail
          go_roundg g
          case measure => omega
          case rel => exact ⟨q + 1, by omega, by go_num, vaside ⟨by rw [hnx.out]; exact P2.out.1, P2.out.2⟩⟩
    · go_wp2_with fail
      go_loopg [1, 6] m.len (fun g nm i wx => ∃ q : Nat, q + g = m.len ∧ i = .int .i64 q ∧ Aside (SR lo wx nm ((allTo m.vals q).foldl addN out) ∧ Grew (w.alloc (.cells #[.int .i64 7, .int .i64 n, .string s, .slice A ll c, .slice A' m.len c'] 25)) wx (.slice An out.length cn) nm))
      case atStart => exact ⟨0, by omega, rfl, vaside ⟨by rw [allTo_zero]; exact PX.out.1, PX.out.2⟩⟩
      case round =>
        obtain ⟨q, hq, rfl, HA⟩ := hrel
        have PY := Lib.hid HA.out
        clear HA PX
        obtain ⟨f0, f1, f2, f3, f4⟩ := HBX.out _ _ PY.out.2
        cases gk with
        | zero =>
          obtain rfl : q = m.len := by omega
          have hF : Hid ((allTo m.vals m.len).foldl addN out = varsV U out) := Lib.hid (by rw [← VM.len_vals, allTo_all]; exact hres.out)
          rw [hF.out] at PY
          clear hF
          go_wp2_with fail

          go_ret
          exact ⟨_, rfl, PY.out.1, HEND.out _ _ PY.out.2⟩
        | succ g =>
          have hqn : q < m.len := by omega
          have hqn' : (q : Int) < (m.len : Int) := by omega
          obtain ⟨⟨nm', x⟩, hx⟩ := VM.get_lt hqn
          have hxv := VM.get_vals hx
          obtain ⟨b, o, d0, d1, d2, d3, d4, hA, hblt, _, _, hF, hV⟩ := MAt.at HM.out hx
          subst hA
          rw [Nat.zero_add] at hF
          have hxs := sizeL_get hxv
          have hrm := allTo_room hxv
          have hln := adds_len (allTo m.vals q) out
          have hnx := Lib.hid (varsL_snoc hxv out)
          have hlow := HLOW.out _ _ PY.out.2
          obtain ⟨e0, e1, e2, e3, e4⟩ := hF.below hlow hblt
          have C := Lib.hid (HS.out x (by omega) d0 d1 d2 d3 d4 _ B lo _ _ HBL.out (Nat.le_trans HLS.out (Nat.le_trans (by simp) PY.out.2.1.size)) (VAt.below hlow _ _ _ _ _ _ hV) PY.out.1 (by omega))
          obtain ⟨xk, xn, xs, xl, xm⟩ := x
          unfold VAt at hV
          obtain ⟨rfl, rfl, rfl, _, ⟨A3, c3', rfl, _, _⟩, A4, c4', rfl, _, _⟩ := hV
          clear hx hxv hF hlow hxs hrm hln
          go_wp2_with fail
          refine C.out.mono ?_
          rintro e w2 ⟨V2, rfl, hs2, hg2⟩
          have P2 := Lib.hid (And.intro hs2 (PY.out.2.trans hg2))
          clear hs2 hg2 C e0 e1 e2 e3 e4 f0 f1 f2 f3 f4
          go_wp2_with fail
          go_roundg g
          case measure => omega
          case rel => exact ⟨q + 1, by omega, by go_num, vaside ⟨by rw [hnx.out]; exact P2.out.1, P2.out.2⟩⟩
end Go.Proofs.YtnmidlbhkjcimaaDoor
/- The walk of the document's vars: variables and others. (gen_rvars.py wrote it.) -/
namespace Go.Proofs.YtnmidlbhkjcimaaDoor
open Go.RowKit

theorem vars_more {W W0 w2 : World} {o : Obj} {lo : Nat} {V V2 V0 : Value} {out : List ByteArray} {y : ByteArray} (hG : Grew W0 W V0 V)
    (hown : w2.ownsRow lo 9 1 V2 (out.length + 1) (out.map .string ++ [.string y])) (hg : (W.alloc o).grownBy w2 V.ownBlock) (hV2 : ∀ k, V2.ownBlock = some k → V.ownBlock = some k ∨ (W.alloc o).heap.size ≤ k) :
    SR lo w2 V2 (out ++ [y]) ∧ Grew W0 w2 V0 V2 := by
  have ha : Below W.heap.size W (W.alloc o) := (Below.refl _ _).alloc (Nat.le_refl _) o
  refine ⟨?_, hG.trans ((Grew.of_below ha).trans ⟨hg, fun b hb => hV2 b hb⟩)⟩
  unfold SR
  rw [List.length_append, List.map_append]
  exact hown
set_option maxRecDepth 100000 in
set_option maxHeartbeats 8000000 in
theorem rvars_var (n : Int) (s : ByteArray) (l : VL) (m : VM) : RVarsC (.mk 8 n s l m) := by
  intro c0 c1 c2 c3 c4 w B lo V out hBl hls hv hs hr
  have HBL := Lib.hid hBl
  have HLS := Lib.hid hls
  have hol : out.length ≤ 20000 := by omega
  unfold VAt at hv
  obtain ⟨rfl, rfl, rfl, hsl, ⟨A, c, rfl, hl, hL⟩, A', c', rfl, hm, hM⟩ := hv
  have HL := Lib.hid hL
  have HM := Lib.hid hM
  obtain ⟨An, cn, hVe, hst⟩ := hs.strs
  have hOB : ∀ g, V.ownBlock = some g → g < w.heap.size := fun g hg => (hs.lt g hg).2
  obtain ⟨V0, hV0⟩ : ∃ V0, V = V0 := ⟨_, rfl⟩
  obtain ⟨w1, hw1⟩ : ∃ w1, w.alloc (.cells #[.int .i64 8, .int .i64 n, .string s, .slice A l.len c, .slice A' m.len c'] 25) = w1 := ⟨_, rfl⟩
  have hsz1 : w1.heap.size = w.heap.size + 1 := by rw [← hw1]; simp
  have hab : Below w.heap.size w w1 := by rw [← hw1]; exact (Below.refl _ _).alloc (Nat.le_refl _) _
  have HBX := Lib.hid (fun (wx : World) (nm : Value) (h : Grew w1 wx V0 nm) => h.five (g := w.heap.size) (o := 0) (c0 := .int .i64 8) (c1 := .int .i64 n) (c2 := .string s) (c3 := .slice A l.len c) (c4 := .slice A' m.len c') (by omega) (fun e => by rw [← hV0] at e; have := hOB _ e; omega) (by rw [← hw1]; exact five_at_new w _ _ _ _ _ _ rfl))
  have HLOW := Lib.hid (fun (wx : World) (nm : Value) (h : Grew w1 wx V0 nm) => (hab.mono (Nat.le_trans hBl hls)).trans (SR.base (B := B) (by rw [← hV0]; exact hs.low hab) h hBl (by omega)))
  have HEND := Lib.hid (fun (wx : World) (nm : Value) (h : Grew w1 wx V0 nm) => Grew.low hab h)
  have hs1 : SR lo w1 V0 out := by rw [← hV0]; exact hs.low hab
  have P0 := Lib.hid (And.intro hs1 (Grew.of_below (V := V0) (Below.refl w1.heap.size w1)))
  have hst1 : Blk.StrsAt w1 w1.heap.size An out.length out := (hst.below hab).more hab.size
  subst hV0
  subst hVe
  subst hw1
  have hres : Hid (addN out s = varsV (.mk 8 n s l m) out) := Lib.hid (by rw [vars_kids, show VT.kids (.mk 8 n s l m) = .nil from rfl]; rfl)
  have hrr : out.length + 1 ≤ 20000 := by rw [sizeV] at hr; omega
  have HH := Lib.hid (has_any An out.length cn out s _ (by omega) hst1)
  obtain ⟨x, hx⟩ : ∃ x, hasN out s = x := ⟨_, rfl⟩
  rw [hx] at HH
  have HX := Lib.hid hx
  generalize VT.mk 8 n s l m = U at *
  clear hBl hls hL hM hs hr hst hOB hs1 hsl hst1 hx HL HM
  generalize l.len = ll at *
  generalize m.len = ml at *
  have e6 : ((8 : Int) == 6) = false := rfl
  have e7 : ((8 : Int) == 7) = false := rfl
  obtain ⟨f0, f1, f2, f3, f4⟩ := HBX.out _ _ P0.out.2
  cases x with
  | true =>
    clear hab hsz1
    go_enter Tryd.func33, Tryd.ntmps33
    go_wp2_with fail
    refine HH.out.mono ?_
    rintro e w2 ⟨rfl, hb2⟩
    have P2 := Lib.hid (And.intro ((congrArg (SR lo w2 (.slice An out.length cn)) (show out = varsV U out from by rw [← hres.out, addN, if_pos HX.out])).mp (P0.out.1.low hb2)) (P0.out.2.trans (Grew.of_below hb2)))
    clear hb2 HH f0 f1 f2 f3 f4 P0
    go_wp2_with fail
    go_loopg [1, 5] 0 (fun g nm i wx => g = 0 ∧ i = .int .i64 0 ∧ Aside (SR lo wx nm (varsV U out) ∧ Grew (w.alloc (.cells #[.int .i64 8, .int .i64 n, .string s, .slice A ll c, .slice A' ml c'] 25)) wx (.slice An out.length cn) nm))
    case atStart => exact ⟨rfl, rfl, vaside P2.out⟩
    case round =>
      obtain ⟨hg0, rfl, HA⟩ := hrel
      have PX := Lib.hid HA.out
      clear HA P2
      subst hg0
      obtain ⟨f0, f1, f2, f3, f4⟩ := HBX.out _ _ PX.out.2
      by_cases hz : (0 : Int) < (ll : Int)
      · go_wp2_with fail
        go_loopg [1, 6] 0 (fun g nm i wx => g = 0 ∧ i = .int .i64 0 ∧ Aside (SR lo wx nm (varsV U out) ∧ Grew (w.alloc (.cells #[.int .i64 8, .int .i64 n, .string s, .slice A ll c, .slice A' ml c'] 25)) wx (.slice An out.length cn) nm))
        case atStart => exact ⟨rfl, rfl, vaside PX.out⟩
        case round =>
          obtain ⟨hg0, rfl, HA⟩ := hrel
          have PY := Lib.hid HA.out
          clear HA PX
          subst hg0
          obtain ⟨f0, f1, f2, f3, f4⟩ := HBX.out _ _ PY.out.2
          by_cases hz : (0 : Int) < (ml : Int)
          · go_wp2_with fail

            go_ret
            exact ⟨_, rfl, PY.out.1, HEND.out _ _ PY.out.2⟩
          · go_wp2_with fail

            go_ret
            exact ⟨_, rfl, PY.out.1, HEND.out _ _ PY.out.2⟩
      · go_wp2_with fail
        go_loopg [1, 6] 0 (fun g nm i wx => g = 0 ∧ i = .int .i64 0 ∧ Aside (SR lo wx nm (varsV U out) ∧ Grew (w.alloc (.cells #[.int .i64 8, .int .i64 n, .string s, .slice A ll c, .slice A' ml c'] 25)) wx (.slice An out.length cn) nm))
        case atStart => exact ⟨rfl, rfl, vaside PX.out⟩
        case round =>
          obtain ⟨hg0, rfl, HA⟩ := hrel
          have PY := Lib.hid HA.out
          clear HA PX
          subst hg0
          obtain ⟨f0, f1, f2, f3, f4⟩ := HBX.out _ _ PY.out.2
          by_cases hz : (0 : Int) < (ml : Int)
          · go_wp2_with fail

            go_ret
            exact ⟨_, rfl, PY.out.1, HEND.out _ _ PY.out.2⟩
          · go_wp2_with fail

            go_ret
            exact ⟨_, rfl, PY.out.1, HEND.out _ _ PY.out.2⟩
  | false =>
    obtain ⟨i0, hi, hz0, hz1, hz2⟩ := info_parts1 info_txt
    go_enter Tryd.func33, Tryd.ntmps33
    go_wp2_with fail
    refine HH.out.mono ?_
    rintro e w2 ⟨rfl, hb2⟩
    have P2 := Lib.hid (And.intro (P0.out.1.low hb2) (P0.out.2.trans (Grew.of_below hb2)))
    have hs2 := hb2.size
    clear hb2 HH f0 f1 f2 f3 f4 P0
    obtain ⟨f0, f1, f2, f3, f4⟩ := HBX.out _ _ P2.out.2
    go_wp2_with (at_builtin; refine wpList_append_lies _ rfl _ _ 35 rfl lo 9 i0 (.string ⟨#[]⟩) 1 16 Tryd.underlying35 hi hz0 hz1 hz2 rfl (by decide) _ out.length (out.map .string) rfl (own_low P2.out.1 ((Below.refl _ _).alloc (Nat.le_refl _) _)) _ 1 1 [.string s] rfl rfl (txt_new _ _ _ rfl) (by intro u hu; simp at hu; subst hu; rfl) (by decide) (by unfold maxLen; omega) (by omega) (by have := HLS.out; simp at hs2 ⊢; omega) _ rfl ?_; intro g3 cap3 w7 hown3 hg3 hat3 hlt3; have HM := Lib.hid (vars_more P2.out.2 hown3 hg3 (fun k e => own_or e hat3 (Nat.le_refl _))); clear hown3 hg3 hat3)
    have P2 := HM
    rw [show out ++ [s] = varsV U out from by rw [← hres.out, addN, if_neg (by rw [HX.out]; decide)]] at P2
    go_wp2_with fail
    go_loopg [1, 5] 0 (fun g nm i wx => g = 0 ∧ i = .int .i64 0 ∧ Aside (SR lo wx nm (varsV U out) ∧ Grew (w.alloc (.cells #[.int .i64 8, .int .i64 n, .string s, .slice A ll c, .slice A' ml c'] 25)) wx (.slice An out.length cn) nm))
    case atStart => exact ⟨rfl, rfl, vaside P2.out⟩
    case round =>
      obtain ⟨hg0, rfl, HA⟩ := hrel
      have PX := Lib.hid HA.out
      clear HA P2
      subst hg0
      obtain ⟨f0, f1, f2, f3, f4⟩ := HBX.out _ _ PX.out.2
      by_cases hz : (0 : Int) < (ll : Int)
      · go_wp2_with fail
        go_loopg [1, 6] 0 (fun g nm i wx => g = 0 ∧ i = .int .i64 0 ∧ Aside (SR lo wx nm (varsV U out) ∧ Grew (w.alloc (.cells #[.int .i64 8, .int .i64 n, .string s, .slice A ll c, .slice A' ml c'] 25)) wx (.slice An out.length cn) nm))
        case atStart => exact ⟨rfl, rfl, vaside PX.out⟩
        case round =>
          obtain ⟨hg0, rfl, HA⟩ := hrel
          have PY := Lib.hid HA.out
          clear HA PX
          subst hg0
          obtain ⟨f0, f1, f2, f3, f4⟩ := HBX.out _ _ PY.out.2
          by_cases hz : (0 : Int) < (ml : Int)
          · go_wp2_with fail

            go_ret
            exact ⟨_, rfl, PY.out.1, HEND.out _ _ PY.out.2⟩
          · go_wp2_with fail

            go_ret
            exact ⟨_, rfl, PY.out.1, HEND.out _ _ PY.out.2⟩
      · go_wp2_with fail
        go_loopg [1, 6] 0 (fun g nm i wx => g = 0 ∧ i = .int .i64 0 ∧ Aside (SR lo wx nm (varsV U out) ∧ Grew (w.alloc (.cells #[.int .i64 8, .int .i64 n, .string s, .slice A ll c, .slice A' ml c'] 25)) wx (.slice An out.length cn) nm))
        case atStart => exact ⟨rfl, rfl, vaside PX.out⟩
        case round =>
          obtain ⟨hg0, rfl, HA⟩ := hrel
          have PY := Lib.hid HA.out
          clear HA PX
          subst hg0
          obtain ⟨f0, f1, f2, f3, f4⟩ := HBX.out _ _ PY.out.2
          by_cases hz : (0 : Int) < (ml : Int)
          · go_wp2_with fail

            go_ret
            exact ⟨_, rfl, PY.out.1, HEND.out _ _ PY.out.2⟩
          · go_wp2_with fail

            go_ret
            exact ⟨_, rfl, PY.out.1, HEND.out _ _ PY.out.2⟩
set_option maxRecDepth 100000 in
set_option maxHeartbeats 8000000 in
theorem rvars_oth (k n : Int) (s : ByteArray) (l : VL) (m : VM) (h6 : k ≠ 6) (h7 : k ≠ 7) (h8 : k ≠ 8) : RVarsC (.mk k n s l m) := by
  intro c0 c1 c2 c3 c4 w B lo V out hBl hls hv hs hr
  have HBL := Lib.hid hBl
  have HLS := Lib.hid hls
  have hol : out.length ≤ 20000 := by omega
  unfold VAt at hv
  obtain ⟨rfl, rfl, rfl, hsl, ⟨A, c, rfl, hl, hL⟩, A', c', rfl, hm, hM⟩ := hv
  have HL := Lib.hid hL
  have HM := Lib.hid hM
  obtain ⟨An, cn, hVe, hst⟩ := hs.strs
  have hOB : ∀ g, V.ownBlock = some g → g < w.heap.size := fun g hg => (hs.lt g hg).2
  obtain ⟨V0, hV0⟩ : ∃ V0, V = V0 := ⟨_, rfl⟩
  obtain ⟨w1, hw1⟩ : ∃ w1, w.alloc (.cells #[.int .i64 k, .int .i64 n, .string s, .slice A l.len c, .slice A' m.len c'] 25) = w1 := ⟨_, rfl⟩
  have hsz1 : w1.heap.size = w.heap.size + 1 := by rw [← hw1]; simp
  have hab : Below w.heap.size w w1 := by rw [← hw1]; exact (Below.refl _ _).alloc (Nat.le_refl _) _
  have HBX := Lib.hid (fun (wx : World) (nm : Value) (h : Grew w1 wx V0 nm) => h.five (g := w.heap.size) (o := 0) (c0 := .int .i64 k) (c1 := .int .i64 n) (c2 := .string s) (c3 := .slice A l.len c) (c4 := .slice A' m.len c') (by omega) (fun e => by rw [← hV0] at e; have := hOB _ e; omega) (by rw [← hw1]; exact five_at_new w _ _ _ _ _ _ rfl))
  have HLOW := Lib.hid (fun (wx : World) (nm : Value) (h : Grew w1 wx V0 nm) => (hab.mono (Nat.le_trans hBl hls)).trans (SR.base (B := B) (by rw [← hV0]; exact hs.low hab) h hBl (by omega)))
  have HEND := Lib.hid (fun (wx : World) (nm : Value) (h : Grew w1 wx V0 nm) => Grew.low hab h)
  have hs1 : SR lo w1 V0 out := by rw [← hV0]; exact hs.low hab
  have P0 := Lib.hid (And.intro hs1 (Grew.of_below (V := V0) (Below.refl w1.heap.size w1)))
  have hst1 : Blk.StrsAt w1 w1.heap.size An out.length out := (hst.below hab).more hab.size
  subst hV0
  subst hVe
  subst hw1
  have hres : Hid (out = varsV (.mk k n s l m) out) := Lib.hid (by rw [vars_kids, show VT.kids (.mk k n s l m) = .nil from by rw [VT.kids, if_neg h6, if_neg h7], if_neg h8]; rfl)
  generalize VT.mk k n s l m = U at *
  have e8 : (k == 8) = false := by simpa using h8
  have e6 : (k == 6) = false := by simpa using h6
  have e7 : (k == 7) = false := by simpa using h7
  clear hBl hls hL hM hs hr hst hOB hs1 hsl hst1 HL HM hab hsz1 h6 h7 h8
  generalize l.len = ll at *
  generalize m.len = ml at *
  obtain ⟨f0, f1, f2, f3, f4⟩ := HBX.out _ _ P0.out.2
  go_enter Tryd.func33, Tryd.ntmps33
  go_wp2_with fail
  clear f0 f1 f2 f3 f4
  go_loopg [1, 5] 0 (fun g nm i wx => g = 0 ∧ i = .int .i64 0 ∧ Aside (SR lo wx nm (out) ∧ Grew (w.alloc (.cells #[.int .i64 k, .int .i64 n, .string s, .slice A ll c, .slice A' ml c'] 25)) wx (.slice An out.length cn) nm))
  case atStart => exact ⟨rfl, rfl, vaside P0.out⟩
  case round =>
    obtain ⟨hg0, rfl, HA⟩ := hrel
    have PX := Lib.hid HA.out
    clear HA P0
    subst hg0
    obtain ⟨f0, f1, f2, f3, f4⟩ := HBX.out _ _ PX.out.2
    by_cases hz : (0 : Int) < (ll : Int)
    · go_wp2_with fail
      go_loopg [1, 6] 0 (fun g nm i wx => g = 0 ∧ i = .int .i64 0 ∧ Aside (SR lo wx nm (out) ∧ Grew (w.alloc (.cells #[.int .i64 k, .int .i64 n, .string s, .slice A ll c, .slice A' ml c'] 25)) wx (.slice An out.length cn) nm))
      case atStart => exact ⟨rfl, rfl, vaside PX.out⟩
      case round =>
        obtain ⟨hg0, rfl, HA⟩ := hrel
        have PY := Lib.hid HA.out
        clear HA PX
        subst hg0
        obtain ⟨f0, f1, f2, f3, f4⟩ := HBX.out _ _ PY.out.2
        by_cases hz : (0 : Int) < (ml : Int)
        · go_wp2_with fail

          go_ret
          exact ⟨_, rfl, (congrArg (SR lo _ _) hres.out).mp PY.out.1, HEND.out _ _ PY.out.2⟩
        · go_wp2_with fail

          go_ret
          exact ⟨_, rfl, (congrArg (SR lo _ _) hres.out).mp PY.out.1, HEND.out _ _ PY.out.2⟩
    · go_wp2_with fail
      go_loopg [1, 6] 0 (fun g nm i wx => g = 0 ∧ i = .int .i64 0 ∧ Aside (SR lo wx nm (out) ∧ Grew (w.alloc (.cells #[.int .i64 k, .int .i64 n, .string s, .slice A ll c, .slice A' ml c'] 25)) wx (.slice An out.length cn) nm))
      case atStart => exact ⟨rfl, rfl, vaside PX.out⟩
      case round =>
        obtain ⟨hg0, rfl, HA⟩ := hrel
        have PY := Lib.hid HA.out
        clear HA PX
        subst hg0
        obtain ⟨f0, f1, f2, f3, f4⟩ := HBX.out _ _ PY.out.2
        by_cases hz : (0 : Int) < (ml : Int)
        · go_wp2_with fail

          go_ret
          exact ⟨_, rfl, (congrArg (SR lo _ _) hres.out).mp PY.out.1, HEND.out _ _ PY.out.2⟩
        · go_wp2_with fail

          go_ret
          exact ⟨_, rfl, (congrArg (SR lo _ _) hres.out).mp PY.out.1, HEND.out _ _ PY.out.2⟩
end Go.Proofs.YtnmidlbhkjcimaaDoor
