/- graph.Loops, where the first turn tells. (gen_grloops.py wrote it.) -/
import Derived.Test.YtohkimibphleaaaGrReach
namespace Go.Proofs.Ytohkimibphleaaa
open Go.RowKit

/-- A search from the first q fragments. -/
def FsR (ws : List (List Nat)) : Nat → SS → Prop
  | 0, s => s = newS ws.length
  | q + 1, s' => ∃ m, FsR ws q m ∧ FromR ws 1 q m s' ∧ s'.stk = []
set_option maxRecDepth 100000 in
set_option maxHeartbeats 8000000 in
theorem loops_any (D : DocT) (c0 c1 : Value) (w : World) (B : Nat) (hB : B ≤ w.heap.size) (hD : DocAt w B D c0 c1) (hZ : szDoc D ≤ 1099511627776) (b : Bool) (hr : ∀ s, FsR (waysF D) D.frags.length s → s.ring = b) (hb : b = false → D.frags.length = 0) :
    Calls Try.prog 14 #[.agg #[c0, c1]] w fun e w' => e = .returned (.bool b) ∧ Below w.heap.size w w' := by
  obtain ⟨Ao, ko, Af, kf, rfl, rfl, _⟩ := doc_cells hD.1
  have hfl := frags_sz D
  obtain ⟨n, hn⟩ : ∃ n, w.heap.size = n := ⟨_, rfl⟩
  have HB0 := Lib.hid hB
  have HRG := Lib.hid hr
  have HBF := Lib.hid hb
  have NO := Lib.hid (fun (wx : World) (h : Below w.heap.size w wx) => netOf_any D _ _ wx B (Nat.le_trans hB h.size) (hD.below (h.mono hB)) hZ)
  have HWS := Lib.hid (ways_ok hZ)
  have HN := Lib.hid hn
  clear hD hB hr hb
  go_enter Try.func14, Try.ntmps14
  go_upto_region 1 with fail
  have B1 : Hid (Below n w (w.alloc (.cells #[.slice Ao D.ops.length ko, .slice Af D.frags.length kf] 25))) := Lib.hid (by rw [← hn]; exact gnew _ _)
  have D1 : Hid ((w.alloc (.cells #[.slice Ao D.ops.length ko, .slice Af D.frags.length kf] 25)).heap[n]? = some (.cells #[.slice Ao D.ops.length ko, .slice Af D.frags.length kf] 25 (0, 0))) := Lib.hid (by rw [← hn]; exact heap_alloc_new _ _)
  generalize w.alloc (.cells #[.slice Ao D.ops.length ko, .slice Af D.frags.length kf] 25) = w1 at B1 D1 ⊢
  rw [hn] at NO HB0
  clear hn
  obtain ⟨⟨y0, y1⟩, _⟩ := gcells2 D1.out
  go_wp2_with fail
  refine (NO.out _ B1.out).mono ?_
  rintro e w2 ⟨M, V, base, rfl, hM, hWO, hMl, hbl, hb2⟩
  have hs1 : n < w1.heap.size := (Array.getElem?_eq_some_iff.1 D1.out).1
  obtain ⟨Aw, cw, rfl, hWA⟩ := hWO.at
  have B2 := Lib.hid (B1.out.trans (hb2.mono (by omega)))
  have D2 := Lib.hid ((hb2.block n hs1).trans D1.out)
  have W2 := Lib.hid hWA
  have hs2 := hb2.size
  clear hM hWO hWA hb2 B1 D1 NO y0 y1
  go_upto_region 2 with fail
  have hbn := gnew w2 (.cells #[.map (some M), .slice Aw (waysF D).length cw] 65)
  have hs3 : (w2.alloc (.cells #[.map (some M), .slice Aw (waysF D).length cw] 65)).heap.size = w2.heap.size + 1 := by simp
  have B3 := Lib.hid (B2.out.trans (hbn.mono (by omega)))
  have D3 := Lib.hid ((hbn.block n (by omega)).trans D2.out)
  have W3 : Hid (WaysAt (w2.alloc (.cells #[.map (some M), .slice Aw (waysF D).length cw] 65)) (w2.alloc (.cells #[.map (some M), .slice Aw (waysF D).length cw] 65)).heap.size Aw (waysF D)) := Lib.hid (fun j l hj => by
    obtain ⟨g, A, c, e, h1, h2, h3, h4⟩ := (W2.out.below (fun b hb => hbn.block b hb)) j l hj
    exact ⟨g, A, c, e, by omega, h2, h3, h4.keep fun b hb => ⟨by omega, rfl⟩⟩)
  have N3 := Lib.hid (heap_alloc_new w2 (.cells #[.map (some M), .slice Aw (waysF D).length cw] 65))
  generalize w2.alloc (.cells #[.map (some M), .slice Aw (waysF D).length cw] 65) = w3 at B3 D3 W3 N3 hs3 ⊢
  generalize w2.heap.size = nb at N3 hs3 hs2 hbl ⊢
  clear hbn B2 D2 W2
  obtain ⟨⟨y0, y1⟩, _⟩ := gcells2 N3.out
  have SE := Lib.hid (search_any M Aw cw (waysF D) w3 W3.out (by rw [ways_len]; omega))
  go_wp2_with fail
  refine SE.out.mono ?_
  rintro e w4 ⟨r, gb, ge, rfl, hS4, hr1, hr2, hr3, hb4⟩
  have hs4 := hb4.size
  have B4 := Lib.hid (B3.out.trans (hb4.mono (by omega)))
  have D4 := Lib.hid ((hb4.block n (by omega)).trans D3.out)
  have S4 := Lib.hid hS4
  have hlt := hS4.lts
  have hr4 : r < w4.heap.size := (Array.getElem?_eq_some_iff.1 hS4.box).1
  clear hS4 hb4 SE B3 D3 W3 N3 y0 y1
  obtain ⟨⟨y0, y1⟩, _⟩ := gcells2 D4.out
  go_wp2_with fail
  go_loopg [16] D.frags.length (fun g t wx => ∃ q : Nat, q + g = D.frags.length ∧ t = .int .i64 q ∧ Asd (∃ Vy s, SrchG w3.heap.size r M gb ge Aw cw (waysF D) 1 Vy s wx ∧ MoV gb ge r w4 (.slice none 0 0) wx Vy ∧ s.stk = [] ∧ OkR (waysF D) 1 s ∧ FsR (waysF D) q s))
  case atStart => exact ⟨0, by omega, rfl, Asd.intro ⟨_, _, S4.out, .of_below (Below.refl _ _), rfl, new_ok _, rfl⟩⟩
  case round =>
    obtain ⟨q, hq, rfl, HX⟩ := hrel
    obtain ⟨Vy, s, hS, hM, hK, hO, hF⟩ := HX.out
    have S6 := Lib.hid hS
    have M6 := Lib.hid hM
    have K6 := Lib.hid hK
    have O6 := Lib.hid hO
    have F6 := Lib.hid hF
    clear HX hS hM hK hO hF S4
    cases gk with
    | zero =>
      obtain rfl : q = D.frags.length := by omega
      have hk6 : ∀ b, b < w3.heap.size → wr.heap[b]? = w4.heap[b]? := fun b hb => M6.out.block b (by omega) (by omega) (by omega) (by omega) (by simp [Value.ownBlock])
      have B6 : Hid (Below n w wr) := Lib.hid ⟨M6.out.os.trans B4.out.os, M6.out.tape.trans B4.out.tape, M6.out.output.trans B4.out.output, Nat.le_trans B4.out.size M6.out.size, fun b hb => (hk6 b (by omega)).trans (B4.out.block b hb)⟩
      obtain ⟨⟨y0, y1⟩, _⟩ := gcells2 ((hk6 n (by omega)).trans D4.out)
      obtain ⟨⟨x0, x1, x2, x3, x4, x5, x6⟩, _⟩ := gcells7 S6.out.box
      have hrg := HRG.out s F6.out
      rw [hrg] at x6
      clear hk6 M6 hrg
      cases b with
      | true =>
        go_wp2_with fail
        go_ret
        rw [HN.out]
        exact ⟨rfl, B6.out⟩
      | false =>
        have h0 := HBF.out rfl
        rw [h0] at y1
        go_wp2_with fail
        go_loopg [30] 0 (fun g t wx => t = .int .i64 0 ∧ Asd (Below n w wx))
        case atStart => exact ⟨rfl, Asd.intro B6.out⟩
        case round =>
          obtain ⟨rfl, HX⟩ := hrel
          have BX := Lib.hid HX.out
          clear HX
          go_wp2_with fail
          go_ret
          rw [HN.out]
          exact ⟨rfl, BX.out⟩
    | succ g =>
      have hqn : q < D.frags.length := by omega
      have hqn' : (q : Int) < (D.frags.length : Int) := by omega
      have FR := Lib.hid (from_any _ _ _ _ _ _ _ _ _ _ _ wr S6.out K6.out O6.out q (by rw [ways_len]; exact hqn) HWS.out (by rw [ways_len]; omega))
      go_wp2_with fail
      refine FR.out.mono ?_
      rintro e w7 ⟨⟨v, rfl⟩, Vy7, s7, h1, h2, h3, h4, h5⟩
      have S7 := Lib.hid h1
      have M7 := Lib.hid (M6.out.trans h2)
      have K7 := Lib.hid h3
      have O7 := Lib.hid h4
      have F7 : Hid (FsR (waysF D) (q + 1) s7) := Lib.hid ⟨s, F6.out, h5, h3⟩
      clear h1 h2 h3 h4 h5 FR
      go_wp2_with fail
      go_roundg g
      case measure => omega
      case rel => exact ⟨q + 1, by omega, by go_num, Asd.intro ⟨_, _, S7.out, M7.out, K7.out, O7.out, F7.out⟩⟩
end Go.Proofs.Ytohkimibphleaaa
