/- The walk of the law ParseJoins. -/
import Derived.Test.YtpkmbhnikilihaaGreatDoorQj39
namespace Go.Proofs.YtpkmbhnikilihaaGreatDoor.LPJoins
open Go.RowKit

theorem res_ok {w w' W : World} {D : DocT} {x : Int} {A0 A1 : Option Addr} {n0 k0 n1 k1 : Nat} (h : Res encDoc [.slice none 0 0, .slice none 0 0] w w' (.ok D) x [.slice A0 n0 k0, .slice A1 n1 k1]) (b : Below w'.heap.size w' W) : x = 0 ∧ n0 = D.ops.length ∧ n1 = D.frags.length ∧ DocAt W W.heap.size D A0 A1 := by
  obtain ⟨h0, h1⟩ := h
  simp only [encDoc, TS, TP] at h1
  obtain ⟨c0, _, e0, ⟨Ao, ko, rfl, hol, hO⟩, c1, _, rfl, ⟨Af, kf, rfl, hfl, hF⟩, rfl⟩ := h1
  rw [rowOf_len] at hol hfl e0
  rw [rowOf_len] at e0
  injection e0 with e0 e1
  injection e0 with q1 q2 q3
  injection e1 with e1 _
  injection e1 with p1 p2 p3
  subst q1 p1
  exact ⟨h0, q2, p2, hol, hfl, RowT.keep (fun k h => ⟨Nat.lt_of_lt_of_le h.2 b.size, b.block k h.2⟩) _ _ hO, RowT.keep (fun k h => ⟨Nat.lt_of_lt_of_le h.2 b.size, b.block k h.2⟩) _ _ hF⟩

set_option maxRecDepth 100000 in
set_option maxHeartbeats 16000000 in
theorem walk (s t : ByteArray) (w : World) (hz : s.size ≤ 9223372036854775807) (hz2 : t.size ≤ 9223372036854775807) (h3 : Laid3 w) (h5 : Laid5 w) : Calls Tryz.prog 5 #[.string s, .string t] w fun e w' => e = .returned (.bool true) ∧ Below w.heap.size w w' := by
  have HA := fun wx (hb : Below w.heap.size w wx) => Lib.hid (awake_any wx (h3.below hb) (h5.below hb))
  by_cases hs : 3000 < s.size
  · have t1 : decide ((3000 : Int) < (s.size : Int)) = true := by simp; omega
    clear h3 h5
    go_enter Tryz.func5, Tryz.ntmps5
    go_wp2_with fail
    refine (HA _ (Below.refl _ _)).out.mono ?_
    rintro e w1 ⟨rfl, hb1⟩
    have B1 := Lib.hid hb1
    clear hb1
    go_wp2_with fail
    go_ret
    exact ⟨rfl, B1.out⟩
  by_cases ht : 3000 < t.size
  · have t1 : decide ((3000 : Int) < (s.size : Int)) = false := by simp; omega
    have t2 : decide ((3000 : Int) < (t.size : Int)) = true := by simp; omega
    clear h3 h5
    go_enter Tryz.func5, Tryz.ntmps5
    go_wp2_with fail
    refine (HA _ (Below.refl _ _)).out.mono ?_
    rintro e w1 ⟨rfl, hb1⟩
    have B1 := Lib.hid hb1
    clear hb1
    go_wp2_with fail
    go_ret
    exact ⟨rfl, B1.out⟩
  have t1 : decide ((3000 : Int) < (s.size : Int)) = false := by simp; omega
  have t2 : decide ((3000 : Int) < (t.size : Int)) = false := by simp; omega
  have HS := Lib.hid (show s.size ≤ 3000 ∧ t.size ≤ 3000 from ⟨by omega, by omega⟩)
  have HP := fun (t : ByteArray) wx (hb : Below w.heap.size w wx) (ht : t.size ≤ 9000) => Lib.hid (pread_any t wx ht (h3.below hb) (h5.below hb))
  clear h3 h5 hs ht
  obtain ⟨RA, hRA⟩ : ∃ R, wholeA docRr s.data.toList = R := ⟨_, rfl⟩
  obtain ⟨RB, hRB⟩ : ∃ R, wholeA docRr t.data.toList = R := ⟨_, rfl⟩
  have HRA := Lib.hid hRA
  have HRB := Lib.hid hRB
  clear hRA hRB
  go_enter Tryz.func5, Tryz.ntmps5
  go_wp2_with fail
  refine (HP s _ (Below.refl _ _) (by have := HS.out; omega)).out.mono ?_
  rintro e w1 ⟨A0, n0, k0, A1, n1, k1, x, rfl, hres, hb1⟩
  rw [HRA.out] at hres
  have RS1 := Lib.hid hres
  have B1 := Lib.hid hb1
  have B1a := Lib.hid (B1.out.alloc B1.out.size (.cells #[.slice A0 n0 k0, .slice A1 n1 k1] 26))
  have Y1 := Lib.hid (heap_alloc_last w1 (.cells #[.slice A0 n0 k0, .slice A1 n1 k1] 26))
  have L1 := Lib.hid (below_new' w1 (.cells #[.slice A0 n0 k0, .slice A1 n1 k1] 26))
  have Z1 := Lib.hid (show (w1.alloc (.cells #[.slice A0 n0 k0, .slice A1 n1 k1] 26)).heap.size = w1.heap.size + 1 by simp)
  clear hres hb1
  go_wp2_with fail
  refine (HP t _ B1a.out (by have := HS.out; omega)).out.mono ?_
  rintro e w2 ⟨A0', n0', k0', A1', n1', k1', x', rfl, hres, hb2⟩
  rw [HRB.out] at hres
  have RS2 := Lib.hid hres
  have hlt1 : w1.heap.size < w2.heap.size := by have := hb2.size; have := Z1.out; omega
  have Y1b := Lib.hid ((hb2.block w1.heap.size (by rw [Z1.out]; omega)).trans Y1.out)
  have L1b := Lib.hid (L1.out.trans (hb2.mono L1.out.size))
  have B2 := Lib.hid (B1a.out.trans (hb2.mono B1a.out.size))
  have B2a := Lib.hid (B2.out.alloc B2.out.size (.cells #[.slice A0' n0' k0', .slice A1' n1' k1'] 26))
  have Y2 := Lib.hid (heap_alloc_last w2 (.cells #[.slice A0' n0' k0', .slice A1' n1' k1'] 26))
  have L2 := Lib.hid (below_new' w2 (.cells #[.slice A0' n0' k0', .slice A1' n1' k1'] 26))
  have Z2 := Lib.hid (show (w2.alloc (.cells #[.slice A0' n0' k0', .slice A1' n1' k1'] 26)).heap.size = w2.heap.size + 1 by simp)
  clear hres hb2
  cases RA with
  | error y =>
    obtain ⟨rfl, hy, hz⟩ := RS1.out
    clear hz
    have t3 : (x != 0) = true := by simpa using hy
    clear hy
    go_wp2_with fail
    refine (HA _ B2a.out).out.mono ?_
    rintro e w6 ⟨rfl, hb6⟩
    have B6 := Lib.hid (B2a.out.trans (hb6.mono B2a.out.size))
    clear hb6
    go_wp2_with fail
    go_ret
    exact ⟨rfl, B6.out⟩
  | ok A =>
    obtain rfl : x = 0 := RS1.out.1
    cases RB with
    | error y =>
      obtain ⟨rfl, hy, hz⟩ := RS2.out
      clear hz
      have t3 : (x' != 0) = true := by simpa using hy
      clear hy
      go_wp2_with fail
      refine (HA _ B2a.out).out.mono ?_
      rintro e w6 ⟨rfl, hb6⟩
      have B6 := Lib.hid (B2a.out.trans (hb6.mono B2a.out.size))
      clear hb6
      go_wp2_with fail
      go_ret
      exact ⟨rfl, B6.out⟩
    | ok B =>
      obtain rfl : x' = 0 := RS2.out.1
      have HJ := Lib.hid (join_doc HRA.out HRB.out (by have := HS.out; rw [len_data, len_data]; omega))
      obtain ⟨S, hS⟩ : ∃ S : ByteArray, s ++ ⟨#[10]⟩ ++ t = S := ⟨_, rfl⟩
      have hS1 : S.data.toList = s.data.toList ++ 10 :: t.data.toList := by rw [← hS]; simp
      have hS2 : S.size ≤ 9000 := by
        have h9 := congrArg List.length hS1
        have := HS.out
        rw [List.length_append, List.length_cons, len_data, len_data, len_data] at h9
        omega
      have HJ' : Hid (wholeA docRr S.data.toList = .ok ⟨A.ops ++ B.ops, A.frags ++ B.frags⟩) := Lib.hid (by rw [hS1]; exact HJ.out)
      have HS2 := Lib.hid hS2
      have hA := doc_small (by have := HS.out; omega) HRA.out
      have hB := doc_small (by have := HS.out; omega) HRB.out
      have HN := Lib.hid (And.intro hA hB)
      have hz1 : s.size ≤ 3000 := HS.out.1
      have hz2 : t.size ≤ 3000 := HS.out.2
      have hc1 : (s ++ ⟨#[10]⟩ : ByteArray).size ≤ 9000 := by rw [ByteArray.size_append]; show s.size + 1 ≤ 9000; omega
      have hc2 : (s ++ ⟨#[10]⟩ ++ t : ByteArray).size ≤ 9000 := by rw [hS]; exact hS2
      clear hS1 hS2 hA hB HJ
      go_wp2_with fail
      clear hS hz1 hz2 hc1 hc2
      refine (HP S _ B2a.out HS2.out).out.mono ?_
      rintro e w3 ⟨A2, n2, k2, A3, n3, k3, x, rfl, hres, hb3⟩
      rw [HJ'.out] at hres
      obtain rfl : x = 0 := hres.1
      have RS3 := Lib.hid hres
      have hlt2 : w2.heap.size < w3.heap.size := by have := hb3.size; have := Z2.out; omega
      have Y1c := Lib.hid (((L2.out.trans (hb3.mono L2.out.size)).block w1.heap.size hlt1).trans Y1b.out)
      have Y2b := Lib.hid ((hb3.block w2.heap.size (by rw [Z2.out]; omega)).trans Y2.out)
      have L2b := Lib.hid (L2.out.trans (hb3.mono L2.out.size))
      have L1c := Lib.hid (L1b.out.trans (L2b.out.mono L1b.out.size))
      have B3 := Lib.hid (B2a.out.trans (hb3.mono B2a.out.size))
      have L3 := Lib.hid (Below.drew (below_new' w3 (.cells #[.slice A2 n2 k2, .slice A3 n3 k3] 26)))
      have Y3 := Lib.hid (heap_alloc_last w3 (.cells #[.slice A2 n2 k2, .slice A3 n3 k3] 26))
      clear hres hb3
      go_wp2_with fail
      obtain ⟨W, hW⟩ : ∃ W, (w3.alloc (.cells #[.slice A2 n2 k2, .slice A3 n3 k3] 26)).drew = W := ⟨_, rfl⟩
      rw [hW] at L3
      have Y3' : W.heap[w3.heap.size]? = some (.cells #[.slice A2 n2 k2, .slice A3 n3 k3] 26 (0, 0)) := by rw [← hW]; exact Y3.out
      have hWs : w3.heap.size < W.heap.size := (Array.getElem?_eq_some_iff.1 Y3').1
      obtain ⟨u0, rfl, rfl, D1⟩ := res_ok RS1.out (L1c.out.trans (L3.out.mono L1c.out.size))
      obtain ⟨u1, rfl, rfl, D2⟩ := res_ok RS2.out (L2b.out.trans (L3.out.mono L2b.out.size))
      obtain ⟨u2, hn2, hn3, D3⟩ := res_ok RS3.out L3.out
      have HN2 := Lib.hid (And.intro hn2 hn3)
      clear hn2 hn3
      have Y1d := (L3.out.block w1.heap.size (by omega)).trans Y1c.out
      have Y2d := (L3.out.block w2.heap.size (by omega)).trans Y2b.out
      have BW := Lib.hid (B3.out.trans (L3.out.mono B3.out.size))
      obtain ⟨xa, Xa⟩ := brings encOp_len' (fun _ _ _ _ => op_one) D1.2.2.1
      obtain ⟨ya, Ya⟩ := brings encF_len' (fun _ _ _ _ => fr_one) D1.2.2.2
      obtain ⟨xb, Xb⟩ := brings encOp_len' (fun _ _ _ _ => op_one) D2.2.2.1
      obtain ⟨yb, Yb⟩ := brings encF_len' (fun _ _ _ _ => fr_one) D2.2.2.2
      have HX := Lib.hid (And.intro Xa (And.intro Ya (And.intro Xb Yb)))
      have HD3 := Lib.hid D3
      have hL : Hid (∀ wx, Below W.heap.size W wx → wx.cell? ⟨w1.heap.size, 0, none⟩ = some (.slice A0 A.ops.length k0) ∧ wx.cell? ⟨w1.heap.size, 1, none⟩ = some (.slice A1 A.frags.length k1) ∧ wx.cell? ⟨w2.heap.size, 0, none⟩ = some (.slice A0' B.ops.length k0') ∧ wx.cell? ⟨w2.heap.size, 1, none⟩ = some (.slice A1' B.frags.length k1')) := Lib.hid (fun wx hb => by
        obtain ⟨p0, p1, _⟩ := pa_two_cells ((hb.block w1.heap.size (by omega)).trans Y1d)
        obtain ⟨q0, q1, _⟩ := pa_two_cells ((hb.block w2.heap.size (by omega)).trans Y2d)
        exact ⟨p0, p1, q0, q1⟩)
      have HB0 := Lib.hid (AB.start W)
      have HY3 := Lib.hid Y3'
      obtain ⟨i0, hi, hz0, hz1, hz2⟩ := info_parts info_O
      obtain ⟨i1, gi, gz0, gz1, gz2⟩ := info_parts info_F
      clear u0 u1 u2 D1 D2 D3 Y1d Y2d Xa Ya Xb Yb Y3'
      refine wp_region_held_drew (S := fun wx => wx.cell? ⟨w1.heap.size, 0, none⟩ = some (.slice A0 A.ops.length k0) ∧ wx.cell? ⟨w1.heap.size, 1, none⟩ = some (.slice A1 A.frags.length k1) ∧ wx.cell? ⟨w2.heap.size, 0, none⟩ = some (.slice A0' B.ops.length k0') ∧ wx.cell? ⟨w2.heap.size, 1, none⟩ = some (.slice A1' B.frags.length k1')) (by kernel_rfl) (by rw [hW]; exact hL.out _ (Below.refl _ _)) (fun hs0 => ?_)
      rw [hW]
      clear hW hs0
      refine wpAnyH_take (i := 0) (v := ?_) rfl (by kernel_rfl) (by kernel_rfl) (by kernel_rfl) (fun _ _ _ h => h) (Or.inl ⟨by rfl, ?_⟩) (hL.out _ (Below.refl _ _)) ?_
      rotate_left
      · (intro w hc; obtain ⟨hc0, hc1, hc2, hc3⟩ := hc; go_simp; try with_reducible rfl)
      simp only [Act.put, List.getElem_toArray, List.getElem_cons_zero, List.setIfInBounds_toArray, List.set_cons_zero, List.set_cons_succ]
      refine wpAnyH_take (i := 1) (v := ?_) rfl (by kernel_rfl) (by kernel_rfl) (by kernel_rfl) (fun _ _ _ h => h) (Or.inl ⟨by rfl, ?_⟩) (hL.out _ (Below.refl _ _)) ?_
      rotate_left
      · (intro w hc; obtain ⟨hc0, hc1, hc2, hc3⟩ := hc; go_simp; try with_reducible rfl)
      simp only [Act.put, List.getElem_toArray, List.getElem_cons_zero, List.getElem_cons_succ, List.setIfInBounds_toArray, List.set_cons_zero, List.set_cons_succ]
      refine wpAnyH_take (i := 3) (v := ?_) rfl (by kernel_rfl) (by kernel_rfl) (by kernel_rfl) (fun _ _ _ h => h) (Or.inl ⟨by rfl, ?_⟩) (hL.out _ (Below.refl _ _)) ?_
      rotate_left
      · (intro w hc; obtain ⟨hc0, hc1, hc2, hc3⟩ := hc; go_simp; try with_reducible rfl)
      simp only [Act.put, List.getElem_toArray, List.getElem_cons_zero, List.getElem_cons_succ, List.setIfInBounds_toArray, List.set_cons_zero, List.set_cons_succ]
      refine wpAnyH_take (i := 4) (v := ?_) rfl (by kernel_rfl) (by kernel_rfl) (by kernel_rfl) (fun _ _ _ h => h) (Or.inl ⟨by rfl, ?_⟩) (hL.out _ (Below.refl _ _)) ?_
      rotate_left
      · (intro w hc; obtain ⟨hc0, hc1, hc2, hc3⟩ := hc; go_simp; try with_reducible rfl)
      simp only [Act.put, List.getElem_toArray, List.getElem_cons_zero, List.getElem_cons_succ, List.setIfInBounds_toArray, List.set_cons_zero, List.set_cons_succ]
      refine wpAnyH_take (i := 6) (v := ?_) rfl (by kernel_rfl) (by kernel_rfl) (by kernel_rfl) (fun _ _ _ h => h) (Or.inl ⟨by rfl, ?_⟩) (hL.out _ (Below.refl _ _)) ?_
      rotate_left
      · (intro w hc; obtain ⟨hc0, hc1, hc2, hc3⟩ := hc; go_simp; try with_reducible rfl)
      simp only [Act.put, List.getElem_toArray, List.getElem_cons_zero, List.getElem_cons_succ, List.setIfInBounds_toArray, List.set_cons_zero, List.set_cons_succ]
      refine wpAnyH_take (i := 7) (v := ?_) rfl (by kernel_rfl) (by kernel_rfl) (by kernel_rfl) (fun _ _ _ h => h) (Or.inl ⟨by rfl, ?_⟩) (hL.out _ (Below.refl _ _)) ?_
      rotate_left
      · (intro w hc; obtain ⟨hc0, hc1, hc2, hc3⟩ := hc; go_simp; try with_reducible rfl)
      simp only [Act.put, List.getElem_toArray, List.getElem_cons_zero, List.getElem_cons_succ, List.setIfInBounds_toArray, List.set_cons_zero, List.set_cons_succ]
      refine wpAnyH_take (i := 9) (v := ?_) rfl (by kernel_rfl) (by kernel_rfl) (by kernel_rfl) (fun _ _ _ h => h) (Or.inl ⟨by rfl, ?_⟩) (hL.out _ (Below.refl _ _)) ?_
      rotate_left
      · (intro w hc; obtain ⟨hc0, hc1, hc2, hc3⟩ := hc; go_simp; try with_reducible rfl)
      simp only [Act.put, List.getElem_toArray, List.getElem_cons_zero, List.getElem_cons_succ, List.setIfInBounds_toArray, List.set_cons_zero, List.set_cons_succ]
      refine wpAnyH_take (i := 10) (v := ?_) rfl (by kernel_rfl) (by kernel_rfl) (by kernel_rfl) (fun _ _ _ h => h) (Or.inl ⟨by rfl, ?_⟩) (hL.out _ (Below.refl _ _)) ?_
      rotate_left
      · (intro w hc; obtain ⟨hc0, hc1, hc2, hc3⟩ := hc; go_simp; try with_reducible rfl)
      simp only [Act.put, List.getElem_toArray, List.getElem_cons_zero, List.getElem_cons_succ, List.setIfInBounds_toArray, List.set_cons_zero, List.set_cons_succ]
      apply sh41 (Pre := fun x V1 y V2 b wn => AB W wn (V1) (0 + A.ops.length + B.ops.length) ([] ++ xa ++ xb) (V2) (0 + A.frags.length + B.frags.length) ([] ++ ya ++ yb) (some b))
      · intro l0
        have L221 := Lib.hid l0
        clear l0
        apply sh31 (Pre := fun x V1 y b wn => AB W wn (V1) (0 + A.ops.length + B.ops.length) ([] ++ xa ++ xb) (y) (0 + A.frags.length) ([] ++ ya) (some b))
        · intro l0
          have L211 := Lib.hid l0
          clear l0
          apply sh40 (Pre := fun x V1 y V2 wn => AB W wn (V1) (0 + A.ops.length + B.ops.length) ([] ++ xa ++ xb) (V2) (0 + A.frags.length + B.frags.length) ([] ++ ya ++ yb) none)
          · intro l0
            have L220 := Lib.hid l0
            clear l0
            apply sh21 (Pre := fun x V1 b wn => AB W wn (V1) (0 + A.ops.length + B.ops.length) ([] ++ xa ++ xb) (.slice none 0 0) (0) [] (some b))
            · intro l0
              have L201 := Lib.hid l0
              clear l0
              apply sh30 (Pre := fun x V1 y wn => AB W wn (V1) (0 + A.ops.length + B.ops.length) ([] ++ xa ++ xb) (y) (0 + A.frags.length) ([] ++ ya) none)
              · intro l0
                have L210 := Lib.hid l0
                clear l0
                apply sh11 (Pre := fun x b wn => AB W wn (x) (0 + A.ops.length) ([] ++ xa) (.slice none 0 0) (0) [] (some b))
                · intro l0
                  have L101 := Lib.hid l0
                  clear l0
                  apply sh20 (Pre := fun x V1 wn => AB W wn (V1) (0 + A.ops.length + B.ops.length) ([] ++ xa ++ xb) (.slice none 0 0) (0) [] none)
                  · intro l0
                    have L200 := Lib.hid l0
                    clear l0
                    apply sh01 (Pre := fun b wn => AB W wn (.slice none 0 0) (0) [] (.slice none 0 0) (0) [] (some b))
                    · intro l0
                      have L001 := Lib.hid l0
                      clear l0
                      apply sh10 (Pre := fun x wn => AB W wn (x) (0 + A.ops.length) ([] ++ xa) (.slice none 0 0) (0) [] none)
                      · intro l0
                        have L100 := Lib.hid l0
                        clear l0
                        have g0 := HB0.out
                        refine wpAnyH_ready (rs := [2, 13]) (by kernel_rfl) (by simp) ?_
                        refine AllReadyH.cons rfl (fun K hK => ?_) ?_
                        · skip
                          refine step_app_row (by rfl) _ _ 23 (by rfl) W.heap.size 68 i0 (.agg #[.int .i64 0, .string ⟨#[]⟩, .slice none 0 0, .slice none 0 0, .slice none 0 0]) 5 96 Tryz.underlying23 hi hz0 hz1 hz2 (by rfl) (by decide) (.slice none 0 0) (0) [] (by rfl) g0.r1 A0 A.ops.length k0 xa (by rfl) HX.out.1.len (HX.out.1.at' _ g0.bl) HX.out.1.one (by have := HN.out; unfold maxLen; omega) (by have := HN.out; omega) g0.bl.size ?_
                          intro x wn hown hg
                          have gn := g0.op hown hg
                          refine hK.out _ _ (hL.out _ gn.bl) (fun hs0 => ?_)
                          clear hK K hown hg hs0
                          simp only [Act.put, List.getElem_toArray, List.getElem_cons_zero, List.getElem_cons_succ, List.setIfInBounds_toArray, List.set_cons_zero, List.set_cons_succ]
                          exact L100.out x _ gn
                        refine AllReadyH.cons rfl (fun K hK => ?_) AllReadyH.nil
                        go_simp
                        have gn := g0.box
                        obtain ⟨b, hbn⟩ : ∃ b, W.heap.size = b := ⟨_, rfl⟩
                        rw [hbn] at gn ⊢
                        clear hbn
                        refine hK.out _ _ (hL.out _ gn.bl) (fun hs0 => ?_)
                        clear hK K hs0
                        obtain ⟨wn, hwn⟩ : ∃ v, W.alloc (.cells #[.slice none 0 0, .slice none 0 0] 26) = v := ⟨_, rfl⟩
                        rw [hwn] at gn ⊢
                        clear hwn
                        exact L001.out b _ gn
                      · intro x w4 hab
                        refine wpAnyH_ready (rs := [5, 13]) (by kernel_rfl) (by simp) ?_
                        refine AllReadyH.cons rfl (fun K hK => ?_) ?_
                        · skip
                          refine step_app_row (by rfl) _ _ 23 (by rfl) W.heap.size 68 i0 (.agg #[.int .i64 0, .string ⟨#[]⟩, .slice none 0 0, .slice none 0 0, .slice none 0 0]) 5 96 Tryz.underlying23 hi hz0 hz1 hz2 (by rfl) (by decide) (x) (0 + A.ops.length) ([] ++ xa) (by rfl) hab.r1 A0' B.ops.length k0' xb (by rfl) HX.out.2.2.1.len (HX.out.2.2.1.at' _ hab.bl) HX.out.2.2.1.one (by have := HN.out; unfold maxLen; omega) (by have := HN.out; omega) hab.bl.size ?_
                          intro V1 wn hown hg
                          have gn := hab.op hown hg
                          refine hK.out _ _ (hL.out _ gn.bl) (fun hs0 => ?_)
                          clear hK K hown hg hs0
                          simp only [Act.put, List.getElem_toArray, List.getElem_cons_zero, List.getElem_cons_succ, List.setIfInBounds_toArray, List.set_cons_zero, List.set_cons_succ]
                          exact L200.out x V1 _ gn
                        refine AllReadyH.cons rfl (fun K hK => ?_) AllReadyH.nil
                        go_simp
                        have gn := hab.box
                        obtain ⟨b, hbn⟩ : ∃ b, w4.heap.size = b := ⟨_, rfl⟩
                        rw [hbn] at gn ⊢
                        clear hbn
                        refine hK.out _ _ (hL.out _ gn.bl) (fun hs0 => ?_)
                        clear hK K hs0
                        obtain ⟨wn, hwn⟩ : ∃ v, w4.alloc (.cells #[.slice none 0 0, .slice none 0 0] 26) = v := ⟨_, rfl⟩
                        rw [hwn] at gn ⊢
                        clear hwn
                        exact L101.out x b _ gn
                    · intro b w4 hab
                      refine wpAnyH_ready (rs := [2]) (by kernel_rfl) (by simp) ?_
                      refine AllReadyH.cons rfl (fun K hK => ?_) AllReadyH.nil
                      refine step_app_row (by rfl) _ _ 23 (by rfl) W.heap.size 68 i0 (.agg #[.int .i64 0, .string ⟨#[]⟩, .slice none 0 0, .slice none 0 0, .slice none 0 0]) 5 96 Tryz.underlying23 hi hz0 hz1 hz2 (by rfl) (by decide) (.slice none 0 0) (0) [] (by rfl) hab.r1 A0 A.ops.length k0 xa (by rfl) HX.out.1.len (HX.out.1.at' _ hab.bl) HX.out.1.one (by have := HN.out; unfold maxLen; omega) (by have := HN.out; omega) hab.bl.size ?_
                      intro x wn hown hg
                      have gn := hab.op hown hg
                      refine hK.out _ _ (hL.out _ gn.bl) (fun hs0 => ?_)
                      clear hK K hown hg hs0
                      simp only [Act.put, List.getElem_toArray, List.getElem_cons_zero, List.getElem_cons_succ, List.setIfInBounds_toArray, List.set_cons_zero, List.set_cons_succ]
                      exact L101.out x b _ gn
                  · intro x V1 w4 hab
                    refine wpAnyH_ready (rs := [8, 13]) (by kernel_rfl) (by simp) ?_
                    refine AllReadyH.cons rfl (fun K hK => ?_) ?_
                    · skip
                      refine step_app_row (by rfl) _ _ 24 (by rfl) W.heap.size 87 i1 (.agg #[.string ⟨#[]⟩, .string ⟨#[]⟩, .slice none 0 0, .slice none 0 0]) 4 80 Tryz.underlying24 gi gz0 gz1 gz2 (by rfl) (by decide) (.slice none 0 0) (0) [] (by rfl) hab.r2 A1 A.frags.length k1 ya (by rfl) HX.out.2.1.len (HX.out.2.1.at' _ hab.bl) HX.out.2.1.one (by have := HN.out; unfold maxLen; omega) (by have := HN.out; omega) hab.bl.size ?_
                      intro y wn hown hg
                      have gn := hab.fr hown hg
                      refine hK.out _ _ (hL.out _ gn.bl) (fun hs0 => ?_)
                      clear hK K hown hg hs0
                      simp only [Act.put, List.getElem_toArray, List.getElem_cons_zero, List.getElem_cons_succ, List.setIfInBounds_toArray, List.set_cons_zero, List.set_cons_succ]
                      exact L210.out x V1 y _ gn
                    refine AllReadyH.cons rfl (fun K hK => ?_) AllReadyH.nil
                    go_simp
                    have gn := hab.box
                    obtain ⟨b, hbn⟩ : ∃ b, w4.heap.size = b := ⟨_, rfl⟩
                    rw [hbn] at gn ⊢
                    clear hbn
                    refine hK.out _ _ (hL.out _ gn.bl) (fun hs0 => ?_)
                    clear hK K hs0
                    obtain ⟨wn, hwn⟩ : ∃ v, w4.alloc (.cells #[.slice none 0 0, .slice none 0 0] 26) = v := ⟨_, rfl⟩
                    rw [hwn] at gn ⊢
                    clear hwn
                    exact L201.out x V1 b _ gn
                · intro x b w4 hab
                  refine wpAnyH_ready (rs := [5]) (by kernel_rfl) (by simp) ?_
                  refine AllReadyH.cons rfl (fun K hK => ?_) AllReadyH.nil
                  refine step_app_row (by rfl) _ _ 23 (by rfl) W.heap.size 68 i0 (.agg #[.int .i64 0, .string ⟨#[]⟩, .slice none 0 0, .slice none 0 0, .slice none 0 0]) 5 96 Tryz.underlying23 hi hz0 hz1 hz2 (by rfl) (by decide) (x) (0 + A.ops.length) ([] ++ xa) (by rfl) hab.r1 A0' B.ops.length k0' xb (by rfl) HX.out.2.2.1.len (HX.out.2.2.1.at' _ hab.bl) HX.out.2.2.1.one (by have := HN.out; unfold maxLen; omega) (by have := HN.out; omega) hab.bl.size ?_
                  intro V1 wn hown hg
                  have gn := hab.op hown hg
                  refine hK.out _ _ (hL.out _ gn.bl) (fun hs0 => ?_)
                  clear hK K hown hg hs0
                  simp only [Act.put, List.getElem_toArray, List.getElem_cons_zero, List.getElem_cons_succ, List.setIfInBounds_toArray, List.set_cons_zero, List.set_cons_succ]
                  exact L201.out x V1 b _ gn
              · intro x V1 y w4 hab
                refine wpAnyH_ready (rs := [11, 13]) (by kernel_rfl) (by simp) ?_
                refine AllReadyH.cons rfl (fun K hK => ?_) ?_
                · skip
                  refine step_app_row (by rfl) _ _ 24 (by rfl) W.heap.size 87 i1 (.agg #[.string ⟨#[]⟩, .string ⟨#[]⟩, .slice none 0 0, .slice none 0 0]) 4 80 Tryz.underlying24 gi gz0 gz1 gz2 (by rfl) (by decide) (y) (0 + A.frags.length) ([] ++ ya) (by rfl) hab.r2 A1' B.frags.length k1' yb (by rfl) HX.out.2.2.2.len (HX.out.2.2.2.at' _ hab.bl) HX.out.2.2.2.one (by have := HN.out; unfold maxLen; omega) (by have := HN.out; omega) hab.bl.size ?_
                  intro V2 wn hown hg
                  have gn := hab.fr hown hg
                  refine hK.out _ _ (hL.out _ gn.bl) (fun hs0 => ?_)
                  clear hK K hown hg hs0
                  simp only [Act.put, List.getElem_toArray, List.getElem_cons_zero, List.getElem_cons_succ, List.setIfInBounds_toArray, List.set_cons_zero, List.set_cons_succ]
                  exact L220.out x V1 y V2 _ gn
                refine AllReadyH.cons rfl (fun K hK => ?_) AllReadyH.nil
                go_simp
                have gn := hab.box
                obtain ⟨b, hbn⟩ : ∃ b, w4.heap.size = b := ⟨_, rfl⟩
                rw [hbn] at gn ⊢
                clear hbn
                refine hK.out _ _ (hL.out _ gn.bl) (fun hs0 => ?_)
                clear hK K hs0
                obtain ⟨wn, hwn⟩ : ∃ v, w4.alloc (.cells #[.slice none 0 0, .slice none 0 0] 26) = v := ⟨_, rfl⟩
                rw [hwn] at gn ⊢
                clear hwn
                exact L211.out x V1 y b _ gn
            · intro x V1 b w4 hab
              refine wpAnyH_ready (rs := [8]) (by kernel_rfl) (by simp) ?_
              refine AllReadyH.cons rfl (fun K hK => ?_) AllReadyH.nil
              refine step_app_row (by rfl) _ _ 24 (by rfl) W.heap.size 87 i1 (.agg #[.string ⟨#[]⟩, .string ⟨#[]⟩, .slice none 0 0, .slice none 0 0]) 4 80 Tryz.underlying24 gi gz0 gz1 gz2 (by rfl) (by decide) (.slice none 0 0) (0) [] (by rfl) hab.r2 A1 A.frags.length k1 ya (by rfl) HX.out.2.1.len (HX.out.2.1.at' _ hab.bl) HX.out.2.1.one (by have := HN.out; unfold maxLen; omega) (by have := HN.out; omega) hab.bl.size ?_
              intro y wn hown hg
              have gn := hab.fr hown hg
              refine hK.out _ _ (hL.out _ gn.bl) (fun hs0 => ?_)
              clear hK K hown hg hs0
              simp only [Act.put, List.getElem_toArray, List.getElem_cons_zero, List.getElem_cons_succ, List.setIfInBounds_toArray, List.set_cons_zero, List.set_cons_succ]
              exact L211.out x V1 y b _ gn
          · intro x V1 y V2 w4 hab
            have gb := hab.box
            obtain ⟨b, hbb⟩ : ∃ b, w4.heap.size = b := ⟨_, rfl⟩
            obtain ⟨wn, hwn⟩ : ∃ v, w4.alloc (.cells #[.slice none 0 0, .slice none 0 0] 26) = v := ⟨_, rfl⟩
            rw [hbb, hwn] at gb
            obtain ⟨e0, e1, ez⟩ := pa_two_cells (gb.bx _ rfl).2
            have ez0 := ez 0
            have ez1 := ez 1
            have hset := Lib.hid (ab_set gb)
            have hgb := Lib.hid gb.bl
            have hbl0 := Lib.hid hab.bl
            obtain ⟨A9, c9, A8, c8, ev1, ev2, hdoc, hbox, hbl⟩ := gb.doc HX.out.1 HX.out.2.2.1 HX.out.2.1 HX.out.2.2.2 (by have := HN.out; omega) (by have := HN.out; omega)
            rw [← HN2.out.1] at ev1
            rw [← HN2.out.2] at ev2
            subst ev1 ev2
            have hdoc' := Lib.hid hdoc
            have hbox' := Lib.hid hbox
            have hbl' := Lib.hid hbl
            clear hdoc hbox hbl ez hab gb
            refine wpAnyH_take (i := 12) (v := ?_) rfl (by kernel_rfl) (by kernel_rfl) (by kernel_rfl) (fun _ _ _ h => h) (Or.inl ⟨by rfl, ?_⟩) (hL.out _ hbl0.out) ?_
            rotate_left
            · (intro w hc; go_simp; try with_reducible rfl)
            simp only [Act.put, List.getElem_toArray, List.getElem_cons_zero, List.getElem_cons_succ, List.setIfInBounds_toArray, List.set_cons_zero, List.set_cons_succ]
            refine wpAnyH_ready (rs := [13]) (by kernel_rfl) (by simp) ?_
            refine AllReadyH.cons rfl (fun K hK => ?_) AllReadyH.nil
            go_simp
            refine hK.out _ _ (hL.out _ hgb.out) (fun hs0 => ?_)
            clear hK K hwn hbb hs0
            refine wpAnyH_ready (rs := [14]) (by kernel_rfl) (by simp) ?_
            refine AllReadyH.cons rfl (fun K hK => ?_) AllReadyH.nil
            go_simp
            refine hK.out _ _ (hL.out _ (hset.out _ _)) (fun hs0 => ?_)
            clear hK K e0 e1 ez0 ez1 hs0
            refine wpAnyH_done (by kernel_rfl) ?_ _
            have hdoc := hdoc'.out
            have hbox := hbox'.out
            have hbl := hbl'.out
            obtain ⟨w5, hw5⟩ : ∃ v, (wn.setCell ⟨b, 0, none⟩ (.slice A9 n2 c9)).setCell ⟨b, 1, none⟩ (.slice A8 n3 c8) = v := ⟨_, rfl⟩
            rw [hw5] at hdoc hbox hbl ⊢
            clear hw5 hset hgb hbl0 hdoc' hbox' hbl'
            obtain ⟨f0, f1, fz⟩ := pa_two_cells ((hbl.block w3.heap.size hWs).trans HY3.out)
            obtain ⟨d0, d1, dz⟩ := pa_two_cells hbox
            have B5 := Lib.hid (BW.out.trans (hbl.mono BW.out.size))
            have hD3 : DocAt w5 w5.heap.size ⟨A.ops ++ B.ops, A.frags ++ B.frags⟩ A2 A3 := by
              obtain ⟨u1, u2, u3, u4⟩ := HD3.out
              exact ⟨u1, u2, RowT.keep (fun k h => ⟨Nat.lt_of_lt_of_le h hbl.size, hbl.block k h⟩) _ _ u3, RowT.keep (fun k h => ⟨Nat.lt_of_lt_of_le h hbl.size, hbl.block k h⟩) _ _ u4⟩
            have hD := sdoc_yes ⟨A.ops ++ B.ops, A.frags ++ B.frags⟩ A2 A9 A3 A8 k2 c9 k3 c8 _ _ (Nat.le_refl _) hD3 hdoc
            rw [show (⟨A.ops ++ B.ops, A.frags ++ B.frags⟩ : DocT).ops.length = n2 from HN2.out.1.symm, show (⟨A.ops ++ B.ops, A.frags ++ B.frags⟩ : DocT).frags.length = n3 from HN2.out.2.symm] at hD
            have HD := Lib.hid hD
            clear hdoc hbox hbl hD3 hD fz dz
            go_wp2_with fail
            refine HD.out.mono ?_
            rintro e w6 ⟨rfl, hb6⟩
            have B6 := Lib.hid (B5.out.trans (hb6.mono B5.out.size))
            clear hb6
            go_wp2_with fail
            refine (HA _ B6.out).out.mono ?_
            rintro e w7 ⟨rfl, hb7⟩
            have B7 := Lib.hid (B6.out.trans (hb7.mono B6.out.size))
            clear hb7
            go_wp2_with fail
            go_ret
            exact ⟨rfl, B7.out⟩
        · intro x V1 y b w4 hab
          refine wpAnyH_ready (rs := [11]) (by kernel_rfl) (by simp) ?_
          refine AllReadyH.cons rfl (fun K hK => ?_) AllReadyH.nil
          refine step_app_row (by rfl) _ _ 24 (by rfl) W.heap.size 87 i1 (.agg #[.string ⟨#[]⟩, .string ⟨#[]⟩, .slice none 0 0, .slice none 0 0]) 4 80 Tryz.underlying24 gi gz0 gz1 gz2 (by rfl) (by decide) (y) (0 + A.frags.length) ([] ++ ya) (by rfl) hab.r2 A1' B.frags.length k1' yb (by rfl) HX.out.2.2.2.len (HX.out.2.2.2.at' _ hab.bl) HX.out.2.2.2.one (by have := HN.out; unfold maxLen; omega) (by have := HN.out; omega) hab.bl.size ?_
          intro V2 wn hown hg
          have gn := hab.fr hown hg
          refine hK.out _ _ (hL.out _ gn.bl) (fun hs0 => ?_)
          clear hK K hown hg hs0
          simp only [Act.put, List.getElem_toArray, List.getElem_cons_zero, List.getElem_cons_succ, List.setIfInBounds_toArray, List.set_cons_zero, List.set_cons_succ]
          exact L221.out x V1 y V2 b _ gn
      · intro x V1 y V2 b w4 hab
        obtain ⟨e0, e1, ez⟩ := pa_two_cells (hab.bx _ rfl).2
        have ez0 := ez 0
        have ez1 := ez 1
        have hset := Lib.hid (ab_set hab)
        have hgb := Lib.hid hab.bl
        have hbl0 := Lib.hid hab.bl
        obtain ⟨A9, c9, A8, c8, ev1, ev2, hdoc, hbox, hbl⟩ := hab.doc HX.out.1 HX.out.2.2.1 HX.out.2.1 HX.out.2.2.2 (by have := HN.out; omega) (by have := HN.out; omega)
        rw [← HN2.out.1] at ev1
        rw [← HN2.out.2] at ev2
        subst ev1 ev2
        have hdoc' := Lib.hid hdoc
        have hbox' := Lib.hid hbox
        have hbl' := Lib.hid hbl
        clear hdoc hbox hbl ez hab
        refine wpAnyH_take (i := 12) (v := ?_) rfl (by kernel_rfl) (by kernel_rfl) (by kernel_rfl) (fun _ _ _ h => h) (Or.inl ⟨by rfl, ?_⟩) (hL.out _ hbl0.out) ?_
        rotate_left
        · (intro w hc; go_simp; try with_reducible rfl)
        simp only [Act.put, List.getElem_toArray, List.getElem_cons_zero, List.getElem_cons_succ, List.setIfInBounds_toArray, List.set_cons_zero, List.set_cons_succ]
        refine wpAnyH_ready (rs := [14]) (by kernel_rfl) (by simp) ?_
        refine AllReadyH.cons rfl (fun K hK => ?_) AllReadyH.nil
        go_simp
        refine hK.out _ _ (hL.out _ (hset.out _ _)) (fun hs0 => ?_)
        clear hK K e0 e1 ez0 ez1 hs0
        refine wpAnyH_done (by kernel_rfl) ?_ _
        have hdoc := hdoc'.out
        have hbox := hbox'.out
        have hbl := hbl'.out
        obtain ⟨w5, hw5⟩ : ∃ v, (w4.setCell ⟨b, 0, none⟩ (.slice A9 n2 c9)).setCell ⟨b, 1, none⟩ (.slice A8 n3 c8) = v := ⟨_, rfl⟩
        rw [hw5] at hdoc hbox hbl ⊢
        clear hw5 hset hgb hbl0 hdoc' hbox' hbl'
        obtain ⟨f0, f1, fz⟩ := pa_two_cells ((hbl.block w3.heap.size hWs).trans HY3.out)
        obtain ⟨d0, d1, dz⟩ := pa_two_cells hbox
        have B5 := Lib.hid (BW.out.trans (hbl.mono BW.out.size))
        have hD3 : DocAt w5 w5.heap.size ⟨A.ops ++ B.ops, A.frags ++ B.frags⟩ A2 A3 := by
          obtain ⟨u1, u2, u3, u4⟩ := HD3.out
          exact ⟨u1, u2, RowT.keep (fun k h => ⟨Nat.lt_of_lt_of_le h hbl.size, hbl.block k h⟩) _ _ u3, RowT.keep (fun k h => ⟨Nat.lt_of_lt_of_le h hbl.size, hbl.block k h⟩) _ _ u4⟩
        have hD := sdoc_yes ⟨A.ops ++ B.ops, A.frags ++ B.frags⟩ A2 A9 A3 A8 k2 c9 k3 c8 _ _ (Nat.le_refl _) hD3 hdoc
        rw [show (⟨A.ops ++ B.ops, A.frags ++ B.frags⟩ : DocT).ops.length = n2 from HN2.out.1.symm, show (⟨A.ops ++ B.ops, A.frags ++ B.frags⟩ : DocT).frags.length = n3 from HN2.out.2.symm] at hD
        have HD := Lib.hid hD
        clear hdoc hbox hbl hD3 hD fz dz
        go_wp2_with fail
        refine HD.out.mono ?_
        rintro e w6 ⟨rfl, hb6⟩
        have B6 := Lib.hid (B5.out.trans (hb6.mono B5.out.size))
        clear hb6
        go_wp2_with fail
        refine (HA _ B6.out).out.mono ?_
        rintro e w7 ⟨rfl, hb7⟩
        have B7 := Lib.hid (B6.out.trans (hb7.mono B6.out.size))
        clear hb7
        go_wp2_with fail
        go_ret
        exact ⟨rfl, B7.out⟩
end Go.Proofs.YtpkmbhnikilihaaGreatDoor.LPJoins
