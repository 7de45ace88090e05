/- The walk of the law GraphJoins. (gen_gjoins.py wrote it.) -/
import Derived.Test.YtohkimibphleaaaGrJoinP
import Derived.Test.YtohkimibphleaaaGrAwakeW
import Derived.Test.YtohkimibphleaaaGrApp
import Derived.Test.YtohkimibphleaaaGrHas
import Derived.Test.YtohkimibphleaaaGrLightD
namespace Go.Proofs.Ytohkimibphleaaa
open Go.RowKit

theorem doc2_ts {w : World} {B g : Nat} {l m : SelL} {A1 A2 : Option Addr} {k1 k2 : Nat} (h : w.heap[g]? = some (.cells #[.string ⟨#[]⟩, .string ⟨#[]⟩, .slice none 0 0, .slice A1 l.len k1, .string ⟨#[]⟩, .string ⟨#[]⟩, .slice none 0 0, .slice A2 m.len k2] 30 (0, 0))) (hg : g < B) (h1 : RowT w (fun b => b < B) (encSL l) A1) (h2 : RowT w (fun b => b < B) (encSL m) A2) (hl : l.len ≤ 9223372036854775807) (hm : m.len ≤ 9223372036854775807) :
    TS w (fun b => b < B) (encDoc ⟨[], [⟨⟨#[]⟩, ⟨#[]⟩, [], l⟩, ⟨⟨#[]⟩, ⟨#[]⟩, [], m⟩]⟩) [.slice none 0 0, .slice (some ⟨g, 0, none⟩) 2 2] := by
  have hc := cells_at (l := [.string ⟨#[]⟩, .string ⟨#[]⟩, .slice none 0 0, .slice A1 l.len k1, .string ⟨#[]⟩, .string ⟨#[]⟩, .slice none 0 0, .slice A2 m.len k2]) h
  have hF : ∀ (l : SelL) (A : Option Addr) (k : Nat), RowT w (fun b => b < B) (encSL l) A → l.len ≤ 9223372036854775807 → TS w (fun b => b < B) (encF ⟨⟨#[]⟩, ⟨#[]⟩, [], l⟩) [.string ⟨#[]⟩, .string ⟨#[]⟩, .slice none 0 0, .slice A l.len k] := fun l A k hR hl => by
    unfold encF
    simp only [TS, TP]
    exact ⟨_, _, rfl, ⟨rfl, by show (0 : Nat) ≤ _; decide⟩, _, _, rfl, ⟨rfl, by show (0 : Nat) ≤ _; decide⟩, _, _, rfl, ⟨none, 0, rfl, Nat.zero_le _, by rw [rowOf]; unfold RowT; trivial⟩, _, _, rfl, ⟨A, k, by rw [encSL_len], by rw [encSL_len]; exact hl, hR⟩, rfl⟩
  unfold encDoc
  simp only [TS, TP]
  refine ⟨_, _, rfl, ⟨none, 0, rfl, Nat.zero_le _, by rw [rowOf]; unfold RowT; trivial⟩, _, _, rfl, ⟨some ⟨g, 0, none⟩, 2, rfl, by show (2 : Nat) ≤ _; decide, ?_⟩, rfl⟩
  rw [rowOf]
  unfold RowT
  refine ⟨g, 0, [.string ⟨#[]⟩, .string ⟨#[]⟩, .slice none 0 0, .slice A1 l.len k1], rfl, hg, fun j u hj => ?_, hF l A1 k1 h1 hl, ?_⟩
  · match j, hj with
    | 0, hj => rw [← Option.some.inj hj]; exact hc 0 _ rfl
    | 1, hj => rw [← Option.some.inj hj]; exact hc 1 _ rfl
    | 2, hj => rw [← Option.some.inj hj]; exact hc 2 _ rfl
    | 3, hj => rw [← Option.some.inj hj]; exact hc 3 _ rfl
  rw [rowOf]
  unfold RowT
  refine ⟨g, 4, [.string ⟨#[]⟩, .string ⟨#[]⟩, .slice none 0 0, .slice A2 m.len k2], rfl, hg, fun j u hj => ?_, hF m A2 k2 h2 hm, by rw [rowOf]; unfold RowT; trivial⟩
  match j, hj with
  | 0, hj => rw [← Option.some.inj hj]; exact hc 4 _ rfl
  | 1, hj => rw [← Option.some.inj hj]; exact hc 5 _ rfl
  | 2, hj => rw [← Option.some.inj hj]; exact hc 6 _ rfl
  | 3, hj => rw [← Option.some.inj hj]; exact hc 7 _ rfl
namespace LGJoins
set_option maxRecDepth 100000 in
set_option maxHeartbeats 8000000 in
theorem walk (w : World) (D : DocT) (c0 c1 : Value) (l m : SelL) (A1 A2 : Option Addr) (k1 k2 : Nat) (hD : DocAt w w.heap.size D c0 c1) (hZ : szDoc D ≤ 1048576) (h1 : SelsAt w w.heap.size l A1) (hk1 : l.len ≤ k1) (hz1 : szSels l ≤ 1048576) (h2 : SelsAt w w.heap.size m A2) (hk2 : m.len ≤ k2) (hz2 : szSels m ≤ 1048576) :
    Calls Try.prog 4 #[.agg #[c0, c1], .slice A1 l.len k1, .slice A2 m.len k2] w fun e w' => e = .returned (.bool true) ∧ Below w.heap.size w w' := by
  obtain ⟨Ao, ko, Af, kf, rfl, rfl, _⟩ := doc_cells hD.1
  have hfl := frags_sz D
  have hl1 := sels_len l
  have hl2 := sels_len m
  obtain ⟨n, hn⟩ : ∃ n, w.heap.size = n := ⟨_, rfl⟩
  have HD := Lib.hid hD
  have LG1 := Lib.hid (fun (wx : World) (h : Below w.heap.size w wx) => glight_any D _ _ wx w.heap.size h.size (hD.below h).1)
  have LG2 := Lib.hid (fun (wx : World) (g : Nat) (h : Below w.heap.size w wx) (hg : wx.heap[g]? = some (.cells #[.string ⟨#[]⟩, .string ⟨#[]⟩, .slice none 0 0, .slice A1 l.len k1, .string ⟨#[]⟩, .string ⟨#[]⟩, .slice none 0 0, .slice A2 m.len k2] 30 (0, 0))) => glight_any _ _ _ wx wx.heap.size (Nat.le_refl _) (doc2_ts hg (Array.getElem?_eq_some_iff.1 hg).1 ((h1.below h).keep h.size (fun _ _ => rfl)).1 ((h2.below h).keep h.size (fun _ _ => rfl)).1 (by omega) (by omega)))
  have RC1 := Lib.hid (fun (wx : World) (h : Below w.heap.size w wx) => reach_any D _ _ l A1 k1 wx w.heap.size w.heap.size h.size h.size (hD.below h) (by omega) (h1.below h) hk1 (by omega))
  have RC2 := Lib.hid (fun (wx : World) (h : Below w.heap.size w wx) => reach_any D _ _ m A2 k2 wx w.heap.size w.heap.size h.size h.size (hD.below h) (by omega) (h2.below h) hk2 (by omega))
  obtain ⟨xs, hxs, hxn⟩ := sels_flat h1
  obtain ⟨ys, hys, hyn⟩ := sels_flat h2
  have Fxs := Lib.hid hxs
  have Fys := Lib.hid hys
  have Nxs : Hid (∀ (wx : World), Below w.heap.size w wx → ∀ (j : Nat) u, xs[j]? = some u → ∃ b o, A1 = some ⟨b, o, none⟩ ∧ wx.cell? ⟨b, o + j, none⟩ = some u) := Lib.hid (fun wx h j u hj => by
    obtain ⟨b, o, e, hc⟩ := hxn j u hj
    exact ⟨b, o, e, (h.cell (p := ⟨b, o + j, none⟩) (World.block_lt_of_cell? w _ hc)).trans hc⟩)
  have Nys : Hid (∀ (wx : World), Below w.heap.size w wx → ∀ (j : Nat) u, ys[j]? = some u → ∃ b o, A2 = some ⟨b, o, none⟩ ∧ wx.cell? ⟨b, o + j, none⟩ = some u) := Lib.hid (fun wx h j u hj => by
    obtain ⟨b, o, e, hc⟩ := hyn j u hj
    exact ⟨b, o, e, (h.cell (p := ⟨b, o + j, none⟩) (World.block_lt_of_cell? w _ hc)).trans hc⟩)
  obtain ⟨is, zs, his, ks0, ks1, ks2, ks3⟩ := gsel_row
  have HN := Lib.hid hn
  clear hD h1 h2 hxs hxn hys hyn
  go_enter Try.func4, Try.ntmps4
  go_upto_region 1 with fail
  have B1 : Hid (Below n w (w.alloc (.cells #[.slice Ao D.ops.length ko, .slice Af D.frags.length kf] 25))) := Lib.hid (by rw [← hn]; exact gnew _ _)
  have DX1 : Hid ((w.alloc (.cells #[.slice Ao D.ops.length ko, .slice Af D.frags.length kf] 25)).heap[n]? = some (.cells #[.slice Ao D.ops.length ko, .slice Af D.frags.length kf] 25 (0, 0))) := Lib.hid (by rw [← hn]; exact heap_alloc_new _ _)
  generalize w.alloc (.cells #[.slice Ao D.ops.length ko, .slice Af D.frags.length kf] 25) = w1 at B1 DX1 ⊢
  rw [hn] at LG1 LG2 RC1 RC2 Nxs Nys
  clear hn
  obtain ⟨⟨x0, x1⟩, _⟩ := gcells2 DX1.out
  go_wp2_with fail
  refine (LG1.out _ B1.out).mono ?_
  rintro e w2 ⟨b1, rfl, hb2⟩
  have B2 := Lib.hid (B1.out.trans (hb2.mono (by have h1 := B1.out.size; have h2 := HN.out; omega)))
  have DX2 := Lib.hid ((hb2.block n (Array.getElem?_eq_some_iff.1 DX1.out).1).trans DX1.out)
  clear hb2 B1 DX1 LG1 x0 x1
  cases b1 with
  | false =>
    go_wp2_with fail
    refine (awake_any _).mono ?_
    rintro e wa ⟨rfl, hba⟩
    have BA := Lib.hid (B2.out.trans (hba.mono (by have h1 := B2.out.size; have h2 := HN.out; omega)))
    clear hba
    go_wp2_with fail
    go_ret
    rw [HN.out]
    exact ⟨rfl, BA.out⟩
  | true =>
    have hbf := gnew w2 (.cells #[.string ⟨#[]⟩, .string ⟨#[]⟩, .slice none 0 0, .slice A1 l.len k1, .string ⟨#[]⟩, .string ⟨#[]⟩, .slice none 0 0, .slice A2 m.len k2] 30)
    have LX := Lib.hid (LG2.out (w2.alloc (.cells #[.string ⟨#[]⟩, .string ⟨#[]⟩, .slice none 0 0, .slice A1 l.len k1, .string ⟨#[]⟩, .string ⟨#[]⟩, .slice none 0 0, .slice A2 m.len k2] 30)) w2.heap.size (B2.out.trans (hbf.mono (by have h1 := B2.out.size; have h2 := HN.out; omega))) (heap_alloc_new _ _))
    have HBF := Lib.hid hbf
    clear hbf LG2
    go_wp2_with fail
    refine LX.out.mono ?_
    rintro e w3 ⟨b2, rfl, hb3⟩
    have hb23 := HBF.out.trans (hb3.mono HBF.out.size)
    have B3 := Lib.hid (B2.out.trans (hb23.mono (by have h1 := B2.out.size; have h2 := HN.out; omega)))
    have DX3 := Lib.hid ((hb23.block n (Array.getElem?_eq_some_iff.1 DX2.out).1).trans DX2.out)
    clear hb3 hb23 HBF LX B2 DX2
    cases b2 with
    | false =>
      go_wp2_with fail
      refine (awake_any _).mono ?_
      rintro e wa ⟨rfl, hba⟩
      have BA := Lib.hid (B3.out.trans (hba.mono (by have h1 := B3.out.size; have h2 := HN.out; omega)))
      clear hba
      go_wp2_with fail
      go_ret
      rw [HN.out]
      exact ⟨rfl, BA.out⟩
    | true =>
      go_wp2_with fail
      refine wp_region_held_drew (S := fun w' => w'.cell? ⟨n, 0, none⟩ = some (.slice Ao D.ops.length ko) ∧ w'.cell? ⟨n, 1, none⟩ = some (.slice Af D.frags.length kf)) (by kernel_rfl) (by obtain ⟨⟨x0, x1⟩, _⟩ := gcells2 (((gdrew w3).block n (Array.getElem?_eq_some_iff.1 DX3.out).1).trans DX3.out); exact ⟨x0, x1⟩) (fun hHeld => ?_)
      obtain ⟨w4, hw4⟩ : ∃ X, w3.drew = X := ⟨_, rfl⟩
      rw [hw4] at hHeld ⊢
      have hd : Below w3.heap.size w3 w4 := by rw [← hw4]; exact gdrew w3
      have B4 := Lib.hid (B3.out.trans (hd.mono (by have h1 := B3.out.size; have h2 := HN.out; omega)))
      have DX4 := Lib.hid ((hd.block n (Array.getElem?_eq_some_iff.1 DX3.out).1).trans DX3.out)
      clear hw4 hd
      refine wpAnyH_take (i := 0) (oi := _) (v := ?_) rfl (by kernel_rfl) (by kernel_rfl) (by kernel_rfl) (fun _ _ _ h => h) (Or.inl ⟨by rfl, ?_⟩) (by first | assumption | trivial) ?_
      rotate_left
      · (intro w hSw; (try dsimp only at hSw); go_simp; try with_reducible rfl)
      try simp only [Act.put, List.getElem_toArray, List.getElem_cons_zero, List.setIfInBounds_toArray, List.set_cons_zero, List.set_cons_succ]
      refine wpAnyH_take (i := 1) (oi := _) (v := ?_) rfl (by kernel_rfl) (by kernel_rfl) (by kernel_rfl) (fun _ _ _ h => h) (Or.inl ⟨by rfl, ?_⟩) (by first | assumption | trivial) ?_
      rotate_left
      · (intro w hSw; (try dsimp only at hSw); go_simp; try with_reducible rfl)
      try simp only [Act.put, List.getElem_toArray, List.getElem_cons_zero, List.getElem_cons_succ, List.setIfInBounds_toArray, List.set_cons_zero, List.set_cons_succ]
      refine wpAnyH_take (i := 3) (oi := _) (v := ?_) rfl (by kernel_rfl) (by kernel_rfl) (by kernel_rfl) (fun _ _ _ h => h) (Or.inl ⟨by rfl, ?_⟩) (by first | assumption | trivial) ?_
      rotate_left
      · (intro w hSw; (try dsimp only at hSw); go_simp; try with_reducible rfl)
      try simp only [Act.put, List.getElem_toArray, List.getElem_cons_zero, List.getElem_cons_succ, List.setIfInBounds_toArray, List.set_cons_zero, List.set_cons_succ]
      refine wpAnyH_take (i := 4) (oi := _) (v := ?_) rfl (by kernel_rfl) (by kernel_rfl) (by kernel_rfl) (fun _ _ _ h => h) (Or.inl ⟨by rfl, ?_⟩) (by first | assumption | trivial) ?_
      rotate_left
      · (intro w hSw; (try dsimp only at hSw); go_simp; try with_reducible rfl)
      try simp only [Act.put, List.getElem_toArray, List.getElem_cons_zero, List.getElem_cons_succ, List.setIfInBounds_toArray, List.set_cons_zero, List.set_cons_succ]
      refine wpAnyH_ready (rs := [2]) (by kernel_rfl) (by simp) ?_
      refine AllReadyH.cons (o := _) rfl (fun K hK => ?_) AllReadyH.nil
      go_simp
      refine (RC1.out _ B4.out).mono ?_
      rintro e w5 ⟨Va, fa, rfl, hf, ho, hb⟩
      have HFa := Lib.hid hf
      have Oa := Lib.hid ho
      have B5 := Lib.hid (B4.out.trans (hb.mono (by have h1 := B4.out.size; have h2 := HN.out; omega)))
      have DX5 := Lib.hid ((hb.block n (Array.getElem?_eq_some_iff.1 DX4.out).1).trans DX4.out)
      clear hf ho hb
      obtain ⟨⟨x0, x1⟩, _⟩ := gcells2 DX5.out
      go_wp2_with fail
      refine hK.out _ _ ⟨x0, x1⟩ (fun hHeld => ?_)
      clear hK K
      try simp only [Act.put, List.getElem_toArray, List.getElem_cons_zero, List.getElem_cons_succ, List.setIfInBounds_toArray, List.set_cons_zero, List.set_cons_succ]
      refine wpAnyH_ready (rs := [5]) (by kernel_rfl) (by simp) ?_
      refine AllReadyH.cons (o := _) rfl (fun K hK => ?_) AllReadyH.nil
      go_simp
      refine (RC2.out _ B5.out).mono ?_
      rintro e w6 ⟨Vb, fb, rfl, hf, ho, hb⟩
      have HFb := Lib.hid hf
      have Ob := Lib.hid ho
      have B6 := Lib.hid (B5.out.trans (hb.mono (by have h1 := B5.out.size; have h2 := HN.out; omega)))
      have DX6 := Lib.hid ((hb.block n (Array.getElem?_eq_some_iff.1 DX5.out).1).trans DX5.out)
      have Oa := Lib.hid (own_low Oa.out hb)
      clear hf ho hb
      obtain ⟨⟨x0, x1⟩, _⟩ := gcells2 DX6.out
      go_wp2_with fail
      refine hK.out _ _ ⟨x0, x1⟩ (fun hHeld => ?_)
      clear hK K
      try simp only [Act.put, List.getElem_toArray, List.getElem_cons_zero, List.getElem_cons_succ, List.setIfInBounds_toArray, List.set_cons_zero, List.set_cons_succ]
      refine wpAnyH_take (i := 6) (oi := _) (v := ?_) rfl (by kernel_rfl) (by kernel_rfl) (by kernel_rfl) (fun _ _ _ h => h) (Or.inl ⟨by rfl, ?_⟩) (by first | assumption | trivial) ?_
      rotate_left
      · (intro w hSw; (try dsimp only at hSw); go_simp; try with_reducible rfl)
      try simp only [Act.put, List.getElem_toArray, List.getElem_cons_zero, List.getElem_cons_succ, List.setIfInBounds_toArray, List.set_cons_zero, List.set_cons_succ]
      refine wpAnyH_take (i := 7) (oi := _) (v := ?_) rfl (by kernel_rfl) (by kernel_rfl) (by kernel_rfl) (fun _ _ _ h => h) (Or.inl ⟨by rfl, ?_⟩) (by first | assumption | trivial) ?_
      rotate_left
      · (intro w hSw; (try dsimp only at hSw); go_simp; try with_reducible rfl)
      try simp only [Act.put, List.getElem_toArray, List.getElem_cons_zero, List.getElem_cons_succ, List.setIfInBounds_toArray, List.set_cons_zero, List.set_cons_succ]
      refine wpAnyH_done (by kernel_rfl) ?_ _
      go_wp2_with fail
      refine wp_region_held_drew (S := fun _ => True) (by kernel_rfl) trivial (fun hHeld => ?_)
      obtain ⟨w7, hw7⟩ : ∃ X, w6.drew = X := ⟨_, rfl⟩
      rw [hw7]
      have hd : Below w6.heap.size w6 w7 := by rw [← hw7]; exact gdrew w6
      have B7 := Lib.hid (B6.out.trans (hd.mono (by have h1 := B6.out.size; have h2 := HN.out; omega)))
      have DX7 := Lib.hid ((hd.block n (Array.getElem?_eq_some_iff.1 DX6.out).1).trans DX6.out)
      have Oa := Lib.hid (own_low Oa.out hd)
      have Ob := Lib.hid (own_low Ob.out hd)
      have LA7 : Hid (∀ b, Va.ownBlock = some b → b < w7.heap.size) := Lib.hid (fun b hb => (Oa.out.lt b hb).2)
      have LB7 : Hid (∀ b, Vb.ownBlock = some b → b < w7.heap.size) := Lib.hid (fun b hb => (Ob.out.lt b hb).2)
      clear hw7 hd
      refine wpAnyH_take (i := 1) (oi := _) (v := ?_) rfl (by kernel_rfl) (by kernel_rfl) (by kernel_rfl) (fun _ _ _ h => h) (Or.inl ⟨by rfl, ?_⟩) (by first | assumption | trivial) ?_
      rotate_left
      · (intro w hSw; (try dsimp only at hSw); go_simp; try with_reducible rfl)
      try simp only [Act.put, List.getElem_toArray, List.getElem_cons_zero, List.getElem_cons_succ, List.setIfInBounds_toArray, List.set_cons_zero, List.set_cons_succ]
      refine wpAnyH_take (i := 3) (oi := _) (v := ?_) rfl (by kernel_rfl) (by kernel_rfl) (by kernel_rfl) (fun _ _ _ h => h) (Or.inl ⟨by rfl, ?_⟩) (by first | assumption | trivial) ?_
      rotate_left
      · (intro w hSw; (try dsimp only at hSw); go_simp; try with_reducible rfl)
      try simp only [Act.put, List.getElem_toArray, List.getElem_cons_zero, List.getElem_cons_succ, List.setIfInBounds_toArray, List.set_cons_zero, List.set_cons_succ]
      refine wpAnyH_ready (rs := [0, 2]) (by kernel_rfl) (by simp) ?_
      refine AllReadyH.cons (o := _) rfl (fun K hK => ?_) ?_
      · obtain ⟨⟨x0, x1⟩, _⟩ := gcells2 DX7.out
        go_simp
        refine hK.out _ _ trivial (fun hHeld => ?_)
        clear hK K
        try simp only [Act.put, List.getElem_toArray, List.getElem_cons_zero, List.getElem_cons_succ, List.setIfInBounds_toArray, List.set_cons_zero, List.set_cons_succ]
        refine wpAnyH_ready (rs := [2]) (by kernel_rfl) (by simp) ?_
        refine AllReadyH.cons (o := _) rfl (fun K hK => ?_) AllReadyH.nil
        refine gstep_rowA rfl _ _ 26 (by rfl) w7.heap.size 55 is zs 7 128 Try.underlying26 his ks0 ks1 ks2 ks3 (by decide) _ 0 [] (by rfl) (World.ownsRow_nil w7 w7.heap.size 55 7) A1 l.len k1 xs (by rfl) (by rw [Fxs.out.len, SelL.ls_len]) (Nxs.out _ B7.out) Fxs.out.one (by unfold maxLen; omega) (by omega) (Nat.le_refl _) ?_
        intro V8 w8 hown hgrow
        have hb8 : Below w7.heap.size w7 w8 := gbelow_grown (Below.refl _ _) hgrow (Nat.le_refl _) (fun b hb => by simp [Value.ownBlock] at hb)
        have B8 := Lib.hid (B7.out.trans (hb8.mono (by have h1 := B7.out.size; have h2 := HN.out; omega)))
        have DX8 := Lib.hid ((hb8.block n (Array.getElem?_eq_some_iff.1 DX7.out).1).trans DX7.out)
        have Oa := Lib.hid (gown_one (w' := w8) Oa.out (fun b hb => hb8.block b (LA7.out b hb)))
        have Ob := Lib.hid (gown_one (w' := w8) Ob.out (fun b hb => hb8.block b (LB7.out b hb)))
        have HO8 := Lib.hid hown
        have S8 : Hid (w7.heap.size ≤ w8.heap.size) := Lib.hid (hb8.size)
        clear hown hgrow hb8
        refine hK.out _ _ trivial (fun hHeld => ?_)
        clear hK K
        try simp only [Act.put, List.getElem_toArray, List.getElem_cons_zero, List.getElem_cons_succ, List.setIfInBounds_toArray, List.set_cons_zero, List.set_cons_succ]
        refine wpAnyH_ready (rs := [4]) (by kernel_rfl) (by simp) ?_
        refine AllReadyH.cons (o := _) rfl (fun K hK => ?_) AllReadyH.nil
        refine gstep_rowA rfl _ _ 26 (by rfl) w7.heap.size 55 is zs 7 128 Try.underlying26 his ks0 ks1 ks2 ks3 (by decide) _ (0 + l.len) ([] ++ xs) (by rfl) HO8.out A2 m.len k2 ys (by rfl) (by rw [Fys.out.len, SelL.ls_len]) (Nys.out _ B8.out) Fys.out.one (by unfold maxLen; omega) (by omega) S8.out ?_
        intro V9 w9 hown hgrow
        have hb9 : Below w7.heap.size w8 w9 := gbelow_grown (Below.refl _ _) hgrow S8.out (fun b hb => (HO8.out.lt b hb).1)
        have B9 := Lib.hid (B8.out.trans (hb9.mono (by have h1 := B7.out.size; have h2 := HN.out; omega)))
        have DX9 := Lib.hid ((hb9.block n (Array.getElem?_eq_some_iff.1 DX7.out).1).trans DX8.out)
        have Oa := Lib.hid (gown_one (w' := w9) Oa.out (fun b hb => hb9.block b (LA7.out b hb)))
        have Ob := Lib.hid (gown_one (w' := w9) Ob.out (fun b hb => hb9.block b (LB7.out b hb)))
        have HO9 := Lib.hid hown
        have S9 : Hid (w7.heap.size ≤ w9.heap.size) := Lib.hid ((Nat.le_trans S8.out hb9.size))
        clear hown hgrow hb9
        have hxy : w9.ownsRow w7.heap.size 55 7 V9 (l.ls ++ m.ls).length (xs ++ ys) := by
          have h := HO9.out
          rw [List.nil_append, Nat.zero_add] at h
          rw [List.length_append, SelL.ls_len, SelL.ls_len]
          exact h
        have hfl9 := (FlatS.app Fys.out Fxs.out).keep (w' := w9) (Nat.le_refl _) (fun b hb => B9.out.block b (by have := HN.out; omega))
        obtain ⟨A9, c9, rfl, hc9, hs9⟩ := own_sels hxy hfl9 (by have h1 := B9.out.size; omega)
        have RC9 := Lib.hid (reach_any D _ _ (toSL (l.ls ++ m.ls)) A9 c9 w9 w.heap.size w9.heap.size (B9.out.size) (Nat.le_refl _) (HD.out.below (by rw [HN.out]; exact B9.out)) (by omega) hs9 hc9 (by rw [toSL_sz, List.map_append, List.sum_append, ← SelL.ls_sz, ← SelL.ls_sz]; omega))
        clear hxy hfl9 hs9 hc9
        refine hK.out _ _ trivial (fun hHeld => ?_)
        clear hK K
        try simp only [Act.put, List.getElem_toArray, List.getElem_cons_zero, List.getElem_cons_succ, List.setIfInBounds_toArray, List.set_cons_zero, List.set_cons_succ]
        refine wpAnyH_ready (rs := [5]) (by kernel_rfl) (by simp) ?_
        refine AllReadyH.cons (o := _) rfl (fun K hK => ?_) AllReadyH.nil
        go_simp
        refine RC9.out.mono ?_
        rintro e w10 ⟨Vc, fc, rfl, hf, ho, hb⟩
        have HFc := Lib.hid hf
        have Oc := Lib.hid ho
        have Oa := Lib.hid (own_low Oa.out hb)
        have Ob := Lib.hid (own_low Ob.out hb)
        have B10 := Lib.hid (B9.out.trans (hb.mono (by have h1 := B9.out.size; have h2 := HN.out; omega)))
        clear hf ho hb RC9
        go_wp2_with fail
        refine hK.out _ _ trivial (fun hHeld => ?_)
        clear hK K
        try simp only [Act.put, List.getElem_toArray, List.getElem_cons_zero, List.getElem_cons_succ, List.setIfInBounds_toArray, List.set_cons_zero, List.set_cons_succ]
        refine wpAnyH_take (i := 6) (oi := _) (v := ?_) rfl (by kernel_rfl) (by kernel_rfl) (by kernel_rfl) (fun _ _ _ h => h) (Or.inl ⟨by rfl, ?_⟩) (by first | assumption | trivial) ?_
        rotate_left
        · (intro w hSw; (try dsimp only at hSw); go_simp; try with_reducible rfl)
        try simp only [Act.put, List.getElem_toArray, List.getElem_cons_zero, List.getElem_cons_succ, List.setIfInBounds_toArray, List.set_cons_zero, List.set_cons_succ]
        refine wpAnyH_done (by kernel_rfl) ?_ _
        clear HD RC1 RC2 Fxs Fys Nxs Nys his ks0 ks1 ks2 ks3 LA7 LB7 HO8 HO9 DX7 DX8 DX9 B7 B8 B9 S8 S9 hHeld
        have RA : RchF D (sprL (gpreL l)) fa := HFa.out
        have RB : RchF D (sprL (gpreL m)) fb := HFb.out
        have RCC : RchF D (sprL (gpreL l ++ gpreL m)) fc := by
          have h := HFc.out
          unfold startP at h
          rw [gpreL_app, toSL_ls, toSL_ls] at h
          exact h
        have JI := Lib.hid (fun s (hs : s ∈ rchUp D fc D.frags.length) => join_in RA RB RCC hs)
        have JC := Lib.hid (join_count RA RB RCC D.frags.length (Nat.le_refl _))
        have HLa := rch_size D fa D.frags.length
        have HLb := rch_size D fb D.frags.length
        have HLc := rch_size D fc D.frags.length
        clear RA RB RCC
        obtain ⟨RAL, hRAL⟩ : ∃ x, rchUp D fa D.frags.length = x := ⟨_, rfl⟩
        obtain ⟨RBL, hRBL⟩ : ∃ x, rchUp D fb D.frags.length = x := ⟨_, rfl⟩
        obtain ⟨RCL, hRCL⟩ : ∃ x, rchUp D fc D.frags.length = x := ⟨_, rfl⟩
        rw [hRAL, hRBL, hRCL] at JI
        rw [hRAL, hRBL, hRCL] at JC
        rw [hRAL] at Oa HLa
        rw [hRBL] at Ob HLb
        rw [hRCL] at Oc HLc
        clear hRAL hRBL hRCL HFa HFb HFc
        obtain ⟨Aa, ca, rfl⟩ := shape_own Oa.out
        obtain ⟨Ab, cb, rfl⟩ := shape_own Ob.out
        obtain ⟨Ac, cc, rfl⟩ := shape_own Oc.out
        go_wp2_with fail
        go_loopg [10] RCL.length (fun g t wx => ∃ q : Nat, q + g = RCL.length ∧ t = .int .i64 q ∧ Asd (Below w10.heap.size w10 wx))
        case atStart => exact ⟨0, by omega, rfl, Asd.intro (Below.refl _ _)⟩
        case round =>
          obtain ⟨q, hq, rfl, HX⟩ := hrel
          have BL := Lib.hid HX.out
          clear HX
          have Oa1 := Lib.hid (own_low Oa.out BL.out)
          have Ob1 := Lib.hid (own_low Ob.out BL.out)
          have Oc1 := Lib.hid (own_low Oc.out BL.out)
          cases gk with
          | zero =>
            obtain rfl : q = RCL.length := by omega
            have B11 := Lib.hid (B10.out.trans (BL.out.mono (by have h1 := B10.out.size; have h2 := HN.out; omega)))
            obtain ⟨w11, hw11⟩ : ∃ x, x = wr := ⟨_, rfl⟩
            subst hw11
            clear Oa Ob Oc BL Oc1
            go_wp2_with fail
            go_loopg [11, 12] RBL.length (fun g v t wx => ∃ q : Nat, q + g = RBL.length ∧ t = .int .i64 q ∧ v = .int .i64 ((RBL.take q).countP (fun s => !inN RAL s) : Nat) ∧ Asd (Below w11.heap.size w11 wx))
            case atStart => exact ⟨0, by omega, rfl, rfl, Asd.intro (Below.refl _ _)⟩
            case round =>
              obtain ⟨q, hq, rfl, rfl, HX⟩ := hrel
              have BL := Lib.hid HX.out
              clear HX
              have Oa2 := Lib.hid (own_low Oa1.out BL.out)
              have Ob2 := Lib.hid (own_low Ob1.out BL.out)
              have hcp : (RBL.take q).countP (fun s => !inN RAL s) ≤ q := Nat.le_trans List.countP_le_length (by rw [List.length_take]; omega)
              cases gk with
              | zero =>
                obtain rfl : q = RBL.length := by omega
                have B12 := Lib.hid (B11.out.trans (BL.out.mono (by have h1 := B11.out.size; have h2 := HN.out; omega)))
                rw [List.take_length] at hcp ⊢
                have hjc : ((RCL.length : Nat) : Int) = (RAL.length : Int) + ((RBL.countP (fun s => !inN RAL s) : Nat) : Int) := by have := JC.out; omega
                have hjw : wrap64 ((RAL.length : Int) + ((RBL.countP (fun s => !inN RAL s) : Nat) : Int)) = (RCL.length : Int) := by rw [← hjc]; unfold wrap64; omega
                generalize RBL.countP (fun s => !inN RAL s) = cn at hcp hjc hjw ⊢
                go_wp2_with fail
                refine (awake_any _).mono ?_
                rintro e wa ⟨rfl, hba⟩
                have BA := Lib.hid (B12.out.trans (hba.mono (by have h1 := B12.out.size; have h2 := HN.out; omega)))
                clear hba
                go_wp2_with fail
                go_ret
                rw [HN.out]
                exact ⟨rfl, BA.out⟩
              | succ g =>
                have hqn : q < RBL.length := by omega
                have hqn' : (q : Int) < (RBL.length : Int) := by omega
                obtain ⟨s, hx⟩ : ∃ s, RBL[q]? = some s := ⟨_, List.getElem?_eq_getElem hqn⟩
                obtain ⟨g1, cp1, e1⟩ := (World.ownsRow.form Ob2.out (by omega))
                injection e1.1 with e2 e3 e4
                subst e2 e4
                have hsc := Ob2.out.cells (g := g1) rfl q (.string s) (by rw [List.getElem?_map, hx]; rfl)
                rw [add_at, Nat.zero_add] at hsc
                have HA := Lib.hid (has_any _ _ RAL s wr Oa2.out (by omega))
                have hnx : (RBL.take (q + 1)).countP (fun s => !inN RAL s) = (RBL.take q).countP (fun s => !inN RAL s) + (if inN RAL s = true then 0 else 1) := by
                  rw [List.take_add_one, hx, List.countP_append]
                  cases hq : inN RAL s <;> simp [hq]
                have HNX := Lib.hid hnx
                clear hx e1 hnx
                obtain ⟨b, hb⟩ : ∃ b, inN RAL s = b := ⟨_, rfl⟩
                rw [hb] at HA HNX
                generalize (RBL.take q).countP (fun s => !inN RAL s) = cn at hcp HNX ⊢
                cases b with
                | true =>
                  go_wp2_with fail
                  refine HA.out.mono ?_
                  rintro e w13 ⟨rfl, hb13⟩
                  have B13 := Lib.hid (BL.out.trans (hb13.mono BL.out.size))
                  clear hb13 HA
                  go_wp2_with fail
                  go_roundg g
                  case measure => omega
                  case rel => exact ⟨q + 1, by omega, by go_num, by rw [HNX.out]; rfl, Asd.intro B13.out⟩
                | false =>
                  go_wp2_with fail
                  refine HA.out.mono ?_
                  rintro e w13 ⟨rfl, hb13⟩
                  have B13 := Lib.hid (BL.out.trans (hb13.mono BL.out.size))
                  clear hb13 HA
                  go_wp2_with fail
                  go_roundg g
                  case measure => omega
                  case rel => exact ⟨q + 1, by omega, by go_num, by rw [HNX.out]; go_num, Asd.intro B13.out⟩
          | succ g =>
            have hqn : q < RCL.length := by omega
            have hqn' : (q : Int) < (RCL.length : Int) := by omega
            obtain ⟨s, hx⟩ : ∃ s, RCL[q]? = some s := ⟨_, List.getElem?_eq_getElem hqn⟩
            obtain ⟨g1, cp1, e1⟩ := (World.ownsRow.form Oc1.out (by omega))
            injection e1.1 with e2 e3 e4
            subst e2 e4
            have hsc := Oc1.out.cells (g := g1) rfl q (.string s) (by rw [List.getElem?_map, hx]; rfl)
            rw [add_at, Nat.zero_add] at hsc
            have hgl := World.block_lt_of_cell? wr _ hsc
            have HSC := Lib.hid hsc
            have HA := Lib.hid (has_any _ _ RAL s wr Oa1.out (by omega))
            have HBF := Lib.hid (fun (wx : World) (h : Below wr.heap.size wr wx) => has_any _ _ RBL s wx (own_low Ob1.out h) (by omega))
            have HJ := JI.out s (List.mem_of_getElem? hx)
            clear hx e1
            obtain ⟨b, hb⟩ : ∃ b, inN RAL s = b := ⟨_, rfl⟩
            obtain ⟨b2, hb2⟩ : ∃ b, inN RBL s = b := ⟨_, rfl⟩
            rw [hb] at HA HJ
            simp only [hb2] at HBF HJ
            have HJ := Lib.hid HJ
            cases b with
            | true =>
              go_wp2_with fail
              refine HA.out.mono ?_
              rintro e w13 ⟨rfl, hb13⟩
              have B13 := Lib.hid (BL.out.trans (hb13.mono BL.out.size))
              clear hb13 HA
              go_wp2_with fail
              go_roundg g
              case measure => omega
              case rel => exact ⟨q + 1, by omega, by go_num, Asd.intro B13.out⟩
            | false =>
              obtain rfl : b2 = true := HJ.out
              go_wp2_with fail
              refine HA.out.mono ?_
              rintro e w13 ⟨rfl, hb13⟩
              have B13 := Lib.hid (BL.out.trans (hb13.mono BL.out.size))
              have hs13 := (hb13.cell (p := ⟨g1, q, none⟩) hgl).trans HSC.out
              have HB2 := Lib.hid (HBF.out _ hb13)
              clear hb13 HA hsc
              go_wp2_with fail
              refine HB2.out.mono ?_
              rintro e w14 ⟨rfl, hb14⟩
              have B14 := Lib.hid (B13.out.trans (hb14.mono B13.out.size))
              clear hb14 HB2
              go_wp2_with fail
              go_roundg g
              case measure => omega
              case rel => exact ⟨q + 1, by omega, by go_num, Asd.intro B14.out⟩
      refine AllReadyH.cons (o := _) rfl (fun K hK => ?_) AllReadyH.nil
      refine gstep_rowA rfl _ _ 26 (by rfl) w7.heap.size 55 is zs 7 128 Try.underlying26 his ks0 ks1 ks2 ks3 (by decide) _ 0 [] (by rfl) (World.ownsRow_nil w7 w7.heap.size 55 7) A1 l.len k1 xs (by rfl) (by rw [Fxs.out.len, SelL.ls_len]) (Nxs.out _ B7.out) Fxs.out.one (by unfold maxLen; omega) (by omega) (Nat.le_refl _) ?_
      intro V8 w8 hown hgrow
      have hb8 : Below w7.heap.size w7 w8 := gbelow_grown (Below.refl _ _) hgrow (Nat.le_refl _) (fun b hb => by simp [Value.ownBlock] at hb)
      have B8 := Lib.hid (B7.out.trans (hb8.mono (by have h1 := B7.out.size; have h2 := HN.out; omega)))
      have DX8 := Lib.hid ((hb8.block n (Array.getElem?_eq_some_iff.1 DX7.out).1).trans DX7.out)
      have Oa := Lib.hid (gown_one (w' := w8) Oa.out (fun b hb => hb8.block b (LA7.out b hb)))
      have Ob := Lib.hid (gown_one (w' := w8) Ob.out (fun b hb => hb8.block b (LB7.out b hb)))
      have HO8 := Lib.hid hown
      have S8 : Hid (w7.heap.size ≤ w8.heap.size) := Lib.hid (hb8.size)
      clear hown hgrow hb8
      refine hK.out _ _ trivial (fun hHeld => ?_)
      clear hK K
      try simp only [Act.put, List.getElem_toArray, List.getElem_cons_zero, List.getElem_cons_succ, List.setIfInBounds_toArray, List.set_cons_zero, List.set_cons_succ]
      refine wpAnyH_ready (rs := [0, 4]) (by kernel_rfl) (by simp) ?_
      refine AllReadyH.cons (o := _) rfl (fun K hK => ?_) ?_
      · obtain ⟨⟨x0, x1⟩, _⟩ := gcells2 DX8.out
        go_simp
        refine hK.out _ _ trivial (fun hHeld => ?_)
        clear hK K
        try simp only [Act.put, List.getElem_toArray, List.getElem_cons_zero, List.getElem_cons_succ, List.setIfInBounds_toArray, List.set_cons_zero, List.set_cons_succ]
        refine wpAnyH_ready (rs := [4]) (by kernel_rfl) (by simp) ?_
        refine AllReadyH.cons (o := _) rfl (fun K hK => ?_) AllReadyH.nil
        refine gstep_rowA rfl _ _ 26 (by rfl) w7.heap.size 55 is zs 7 128 Try.underlying26 his ks0 ks1 ks2 ks3 (by decide) _ (0 + l.len) ([] ++ xs) (by rfl) HO8.out A2 m.len k2 ys (by rfl) (by rw [Fys.out.len, SelL.ls_len]) (Nys.out _ B8.out) Fys.out.one (by unfold maxLen; omega) (by omega) S8.out ?_
        intro V9 w9 hown hgrow
        have hb9 : Below w7.heap.size w8 w9 := gbelow_grown (Below.refl _ _) hgrow S8.out (fun b hb => (HO8.out.lt b hb).1)
        have B9 := Lib.hid (B8.out.trans (hb9.mono (by have h1 := B7.out.size; have h2 := HN.out; omega)))
        have DX9 := Lib.hid ((hb9.block n (Array.getElem?_eq_some_iff.1 DX7.out).1).trans DX8.out)
        have Oa := Lib.hid (gown_one (w' := w9) Oa.out (fun b hb => hb9.block b (LA7.out b hb)))
        have Ob := Lib.hid (gown_one (w' := w9) Ob.out (fun b hb => hb9.block b (LB7.out b hb)))
        have HO9 := Lib.hid hown
        have S9 : Hid (w7.heap.size ≤ w9.heap.size) := Lib.hid ((Nat.le_trans S8.out hb9.size))
        clear hown hgrow hb9
        have hxy : w9.ownsRow w7.heap.size 55 7 V9 (l.ls ++ m.ls).length (xs ++ ys) := by
          have h := HO9.out
          rw [List.nil_append, Nat.zero_add] at h
          rw [List.length_append, SelL.ls_len, SelL.ls_len]
          exact h
        have hfl9 := (FlatS.app Fys.out Fxs.out).keep (w' := w9) (Nat.le_refl _) (fun b hb => B9.out.block b (by have := HN.out; omega))
        obtain ⟨A9, c9, rfl, hc9, hs9⟩ := own_sels hxy hfl9 (by have h1 := B9.out.size; omega)
        have RC9 := Lib.hid (reach_any D _ _ (toSL (l.ls ++ m.ls)) A9 c9 w9 w.heap.size w9.heap.size (B9.out.size) (Nat.le_refl _) (HD.out.below (by rw [HN.out]; exact B9.out)) (by omega) hs9 hc9 (by rw [toSL_sz, List.map_append, List.sum_append, ← SelL.ls_sz, ← SelL.ls_sz]; omega))
        clear hxy hfl9 hs9 hc9
        refine hK.out _ _ trivial (fun hHeld => ?_)
        clear hK K
        try simp only [Act.put, List.getElem_toArray, List.getElem_cons_zero, List.getElem_cons_succ, List.setIfInBounds_toArray, List.set_cons_zero, List.set_cons_succ]
        refine wpAnyH_ready (rs := [5]) (by kernel_rfl) (by simp) ?_
        refine AllReadyH.cons (o := _) rfl (fun K hK => ?_) AllReadyH.nil
        go_simp
        refine RC9.out.mono ?_
        rintro e w10 ⟨Vc, fc, rfl, hf, ho, hb⟩
        have HFc := Lib.hid hf
        have Oc := Lib.hid ho
        have Oa := Lib.hid (own_low Oa.out hb)
        have Ob := Lib.hid (own_low Ob.out hb)
        have B10 := Lib.hid (B9.out.trans (hb.mono (by have h1 := B9.out.size; have h2 := HN.out; omega)))
        clear hf ho hb RC9
        go_wp2_with fail
        refine hK.out _ _ trivial (fun hHeld => ?_)
        clear hK K
        try simp only [Act.put, List.getElem_toArray, List.getElem_cons_zero, List.getElem_cons_succ, List.setIfInBounds_toArray, List.set_cons_zero, List.set_cons_succ]
        refine wpAnyH_take (i := 6) (oi := _) (v := ?_) rfl (by kernel_rfl) (by kernel_rfl) (by kernel_rfl) (fun _ _ _ h => h) (Or.inl ⟨by rfl, ?_⟩) (by first | assumption | trivial) ?_
        rotate_left
        · (intro w hSw; (try dsimp only at hSw); go_simp; try with_reducible rfl)
        try simp only [Act.put, List.getElem_toArray, List.getElem_cons_zero, List.getElem_cons_succ, List.setIfInBounds_toArray, List.set_cons_zero, List.set_cons_succ]
        refine wpAnyH_done (by kernel_rfl) ?_ _
        clear HD RC1 RC2 Fxs Fys Nxs Nys his ks0 ks1 ks2 ks3 LA7 LB7 HO8 HO9 DX7 DX8 DX9 B7 B8 B9 S8 S9 hHeld
        have RA : RchF D (sprL (gpreL l)) fa := HFa.out
        have RB : RchF D (sprL (gpreL m)) fb := HFb.out
        have RCC : RchF D (sprL (gpreL l ++ gpreL m)) fc := by
          have h := HFc.out
          unfold startP at h
          rw [gpreL_app, toSL_ls, toSL_ls] at h
          exact h
        have JI := Lib.hid (fun s (hs : s ∈ rchUp D fc D.frags.length) => join_in RA RB RCC hs)
        have JC := Lib.hid (join_count RA RB RCC D.frags.length (Nat.le_refl _))
        have HLa := rch_size D fa D.frags.length
        have HLb := rch_size D fb D.frags.length
        have HLc := rch_size D fc D.frags.length
        clear RA RB RCC
        obtain ⟨RAL, hRAL⟩ : ∃ x, rchUp D fa D.frags.length = x := ⟨_, rfl⟩
        obtain ⟨RBL, hRBL⟩ : ∃ x, rchUp D fb D.frags.length = x := ⟨_, rfl⟩
        obtain ⟨RCL, hRCL⟩ : ∃ x, rchUp D fc D.frags.length = x := ⟨_, rfl⟩
        rw [hRAL, hRBL, hRCL] at JI
        rw [hRAL, hRBL, hRCL] at JC
        rw [hRAL] at Oa HLa
        rw [hRBL] at Ob HLb
        rw [hRCL] at Oc HLc
        clear hRAL hRBL hRCL HFa HFb HFc
        obtain ⟨Aa, ca, rfl⟩ := shape_own Oa.out
        obtain ⟨Ab, cb, rfl⟩ := shape_own Ob.out
        obtain ⟨Ac, cc, rfl⟩ := shape_own Oc.out
        go_wp2_with fail
        go_loopg [10] RCL.length (fun g t wx => ∃ q : Nat, q + g = RCL.length ∧ t = .int .i64 q ∧ Asd (Below w10.heap.size w10 wx))
        case atStart => exact ⟨0, by omega, rfl, Asd.intro (Below.refl _ _)⟩
        case round =>
          obtain ⟨q, hq, rfl, HX⟩ := hrel
          have BL := Lib.hid HX.out
          clear HX
          have Oa1 := Lib.hid (own_low Oa.out BL.out)
          have Ob1 := Lib.hid (own_low Ob.out BL.out)
          have Oc1 := Lib.hid (own_low Oc.out BL.out)
          cases gk with
          | zero =>
            obtain rfl : q = RCL.length := by omega
            have B11 := Lib.hid (B10.out.trans (BL.out.mono (by have h1 := B10.out.size; have h2 := HN.out; omega)))
            obtain ⟨w11, hw11⟩ : ∃ x, x = wr := ⟨_, rfl⟩
            subst hw11
            clear Oa Ob Oc BL Oc1
            go_wp2_with fail
            go_loopg [11, 12] RBL.length (fun g v t wx => ∃ q : Nat, q + g = RBL.length ∧ t = .int .i64 q ∧ v = .int .i64 ((RBL.take q).countP (fun s => !inN RAL s) : Nat) ∧ Asd (Below w11.heap.size w11 wx))
            case atStart => exact ⟨0, by omega, rfl, rfl, Asd.intro (Below.refl _ _)⟩
            case round =>
              obtain ⟨q, hq, rfl, rfl, HX⟩ := hrel
              have BL := Lib.hid HX.out
              clear HX
              have Oa2 := Lib.hid (own_low Oa1.out BL.out)
              have Ob2 := Lib.hid (own_low Ob1.out BL.out)
              have hcp : (RBL.take q).countP (fun s => !inN RAL s) ≤ q := Nat.le_trans List.countP_le_length (by rw [List.length_take]; omega)
              cases gk with
              | zero =>
                obtain rfl : q = RBL.length := by omega
                have B12 := Lib.hid (B11.out.trans (BL.out.mono (by have h1 := B11.out.size; have h2 := HN.out; omega)))
                rw [List.take_length] at hcp ⊢
                have hjc : ((RCL.length : Nat) : Int) = (RAL.length : Int) + ((RBL.countP (fun s => !inN RAL s) : Nat) : Int) := by have := JC.out; omega
                have hjw : wrap64 ((RAL.length : Int) + ((RBL.countP (fun s => !inN RAL s) : Nat) : Int)) = (RCL.length : Int) := by rw [← hjc]; unfold wrap64; omega
                generalize RBL.countP (fun s => !inN RAL s) = cn at hcp hjc hjw ⊢
                go_wp2_with fail
                refine (awake_any _).mono ?_
                rintro e wa ⟨rfl, hba⟩
                have BA := Lib.hid (B12.out.trans (hba.mono (by have h1 := B12.out.size; have h2 := HN.out; omega)))
                clear hba
                go_wp2_with fail
                go_ret
                rw [HN.out]
                exact ⟨rfl, BA.out⟩
              | succ g =>
                have hqn : q < RBL.length := by omega
                have hqn' : (q : Int) < (RBL.length : Int) := by omega
                obtain ⟨s, hx⟩ : ∃ s, RBL[q]? = some s := ⟨_, List.getElem?_eq_getElem hqn⟩
                obtain ⟨g1, cp1, e1⟩ := (World.ownsRow.form Ob2.out (by omega))
                injection e1.1 with e2 e3 e4
                subst e2 e4
                have hsc := Ob2.out.cells (g := g1) rfl q (.string s) (by rw [List.getElem?_map, hx]; rfl)
                rw [add_at, Nat.zero_add] at hsc
                have HA := Lib.hid (has_any _ _ RAL s wr Oa2.out (by omega))
                have hnx : (RBL.take (q + 1)).countP (fun s => !inN RAL s) = (RBL.take q).countP (fun s => !inN RAL s) + (if inN RAL s = true then 0 else 1) := by
                  rw [List.take_add_one, hx, List.countP_append]
                  cases hq : inN RAL s <;> simp [hq]
                have HNX := Lib.hid hnx
                clear hx e1 hnx
                obtain ⟨b, hb⟩ : ∃ b, inN RAL s = b := ⟨_, rfl⟩
                rw [hb] at HA HNX
                generalize (RBL.take q).countP (fun s => !inN RAL s) = cn at hcp HNX ⊢
                cases b with
                | true =>
                  go_wp2_with fail
                  refine HA.out.mono ?_
                  rintro e w13 ⟨rfl, hb13⟩
                  have B13 := Lib.hid (BL.out.trans (hb13.mono BL.out.size))
                  clear hb13 HA
                  go_wp2_with fail
                  go_roundg g
                  case measure => omega
                  case rel => exact ⟨q + 1, by omega, by go_num, by rw [HNX.out]; rfl, Asd.intro B13.out⟩
                | false =>
                  go_wp2_with fail
                  refine HA.out.mono ?_
                  rintro e w13 ⟨rfl, hb13⟩
                  have B13 := Lib.hid (BL.out.trans (hb13.mono BL.out.size))
                  clear hb13 HA
                  go_wp2_with fail
                  go_roundg g
                  case measure => omega
                  case rel => exact ⟨q + 1, by omega, by go_num, by rw [HNX.out]; go_num, Asd.intro B13.out⟩
          | succ g =>
            have hqn : q < RCL.length := by omega
            have hqn' : (q : Int) < (RCL.length : Int) := by omega
            obtain ⟨s, hx⟩ : ∃ s, RCL[q]? = some s := ⟨_, List.getElem?_eq_getElem hqn⟩
            obtain ⟨g1, cp1, e1⟩ := (World.ownsRow.form Oc1.out (by omega))
            injection e1.1 with e2 e3 e4
            subst e2 e4
            have hsc := Oc1.out.cells (g := g1) rfl q (.string s) (by rw [List.getElem?_map, hx]; rfl)
            rw [add_at, Nat.zero_add] at hsc
            have hgl := World.block_lt_of_cell? wr _ hsc
            have HSC := Lib.hid hsc
            have HA := Lib.hid (has_any _ _ RAL s wr Oa1.out (by omega))
            have HBF := Lib.hid (fun (wx : World) (h : Below wr.heap.size wr wx) => has_any _ _ RBL s wx (own_low Ob1.out h) (by omega))
            have HJ := JI.out s (List.mem_of_getElem? hx)
            clear hx e1
            obtain ⟨b, hb⟩ : ∃ b, inN RAL s = b := ⟨_, rfl⟩
            obtain ⟨b2, hb2⟩ : ∃ b, inN RBL s = b := ⟨_, rfl⟩
            rw [hb] at HA HJ
            simp only [hb2] at HBF HJ
            have HJ := Lib.hid HJ
            cases b with
            | true =>
              go_wp2_with fail
              refine HA.out.mono ?_
              rintro e w13 ⟨rfl, hb13⟩
              have B13 := Lib.hid (BL.out.trans (hb13.mono BL.out.size))
              clear hb13 HA
              go_wp2_with fail
              go_roundg g
              case measure => omega
              case rel => exact ⟨q + 1, by omega, by go_num, Asd.intro B13.out⟩
            | false =>
              obtain rfl : b2 = true := HJ.out
              go_wp2_with fail
              refine HA.out.mono ?_
              rintro e w13 ⟨rfl, hb13⟩
              have B13 := Lib.hid (BL.out.trans (hb13.mono BL.out.size))
              have hs13 := (hb13.cell (p := ⟨g1, q, none⟩) hgl).trans HSC.out
              have HB2 := Lib.hid (HBF.out _ hb13)
              clear hb13 HA hsc
              go_wp2_with fail
              refine HB2.out.mono ?_
              rintro e w14 ⟨rfl, hb14⟩
              have B14 := Lib.hid (B13.out.trans (hb14.mono B13.out.size))
              clear hb14 HB2
              go_wp2_with fail
              go_roundg g
              case measure => omega
              case rel => exact ⟨q + 1, by omega, by go_num, Asd.intro B14.out⟩
      refine AllReadyH.cons (o := _) rfl (fun K hK => ?_) AllReadyH.nil
      refine gstep_rowA rfl _ _ 26 (by rfl) w7.heap.size 55 is zs 7 128 Try.underlying26 his ks0 ks1 ks2 ks3 (by decide) _ (0 + l.len) ([] ++ xs) (by rfl) HO8.out A2 m.len k2 ys (by rfl) (by rw [Fys.out.len, SelL.ls_len]) (Nys.out _ B8.out) Fys.out.one (by unfold maxLen; omega) (by omega) S8.out ?_
      intro V9 w9 hown hgrow
      have hb9 : Below w7.heap.size w8 w9 := gbelow_grown (Below.refl _ _) hgrow S8.out (fun b hb => (HO8.out.lt b hb).1)
      have B9 := Lib.hid (B8.out.trans (hb9.mono (by have h1 := B7.out.size; have h2 := HN.out; omega)))
      have DX9 := Lib.hid ((hb9.block n (Array.getElem?_eq_some_iff.1 DX7.out).1).trans DX8.out)
      have Oa := Lib.hid (gown_one (w' := w9) Oa.out (fun b hb => hb9.block b (LA7.out b hb)))
      have Ob := Lib.hid (gown_one (w' := w9) Ob.out (fun b hb => hb9.block b (LB7.out b hb)))
      have HO9 := Lib.hid hown
      have S9 : Hid (w7.heap.size ≤ w9.heap.size) := Lib.hid ((Nat.le_trans S8.out hb9.size))
      clear hown hgrow hb9
      have hxy : w9.ownsRow w7.heap.size 55 7 V9 (l.ls ++ m.ls).length (xs ++ ys) := by
        have h := HO9.out
        rw [List.nil_append, Nat.zero_add] at h
        rw [List.length_append, SelL.ls_len, SelL.ls_len]
        exact h
      have hfl9 := (FlatS.app Fys.out Fxs.out).keep (w' := w9) (Nat.le_refl _) (fun b hb => B9.out.block b (by have := HN.out; omega))
      obtain ⟨A9, c9, rfl, hc9, hs9⟩ := own_sels hxy hfl9 (by have h1 := B9.out.size; omega)
      have RC9 := Lib.hid (reach_any D _ _ (toSL (l.ls ++ m.ls)) A9 c9 w9 w.heap.size w9.heap.size (B9.out.size) (Nat.le_refl _) (HD.out.below (by rw [HN.out]; exact B9.out)) (by omega) hs9 hc9 (by rw [toSL_sz, List.map_append, List.sum_append, ← SelL.ls_sz, ← SelL.ls_sz]; omega))
      clear hxy hfl9 hs9 hc9
      refine hK.out _ _ trivial (fun hHeld => ?_)
      clear hK K
      try simp only [Act.put, List.getElem_toArray, List.getElem_cons_zero, List.getElem_cons_succ, List.setIfInBounds_toArray, List.set_cons_zero, List.set_cons_succ]
      refine wpAnyH_ready (rs := [0]) (by kernel_rfl) (by simp) ?_
      refine AllReadyH.cons (o := _) rfl (fun K hK => ?_) AllReadyH.nil
      obtain ⟨⟨x0, x1⟩, _⟩ := gcells2 DX9.out
      go_simp
      refine hK.out _ _ trivial (fun hHeld => ?_)
      clear hK K
      try simp only [Act.put, List.getElem_toArray, List.getElem_cons_zero, List.getElem_cons_succ, List.setIfInBounds_toArray, List.set_cons_zero, List.set_cons_succ]
      refine wpAnyH_ready (rs := [5]) (by kernel_rfl) (by simp) ?_
      refine AllReadyH.cons (o := _) rfl (fun K hK => ?_) AllReadyH.nil
      go_simp
      refine RC9.out.mono ?_
      rintro e w10 ⟨Vc, fc, rfl, hf, ho, hb⟩
      have HFc := Lib.hid hf
      have Oc := Lib.hid ho
      have Oa := Lib.hid (own_low Oa.out hb)
      have Ob := Lib.hid (own_low Ob.out hb)
      have B10 := Lib.hid (B9.out.trans (hb.mono (by have h1 := B9.out.size; have h2 := HN.out; omega)))
      clear hf ho hb RC9
      go_wp2_with fail
      refine hK.out _ _ trivial (fun hHeld => ?_)
      clear hK K
      try simp only [Act.put, List.getElem_toArray, List.getElem_cons_zero, List.getElem_cons_succ, List.setIfInBounds_toArray, List.set_cons_zero, List.set_cons_succ]
      refine wpAnyH_take (i := 6) (oi := _) (v := ?_) rfl (by kernel_rfl) (by kernel_rfl) (by kernel_rfl) (fun _ _ _ h => h) (Or.inl ⟨by rfl, ?_⟩) (by first | assumption | trivial) ?_
      rotate_left
      · (intro w hSw; (try dsimp only at hSw); go_simp; try with_reducible rfl)
      try simp only [Act.put, List.getElem_toArray, List.getElem_cons_zero, List.getElem_cons_succ, List.setIfInBounds_toArray, List.set_cons_zero, List.set_cons_succ]
      refine wpAnyH_done (by kernel_rfl) ?_ _
      clear HD RC1 RC2 Fxs Fys Nxs Nys his ks0 ks1 ks2 ks3 LA7 LB7 HO8 HO9 DX7 DX8 DX9 B7 B8 B9 S8 S9 hHeld
      have RA : RchF D (sprL (gpreL l)) fa := HFa.out
      have RB : RchF D (sprL (gpreL m)) fb := HFb.out
      have RCC : RchF D (sprL (gpreL l ++ gpreL m)) fc := by
        have h := HFc.out
        unfold startP at h
        rw [gpreL_app, toSL_ls, toSL_ls] at h
        exact h
      have JI := Lib.hid (fun s (hs : s ∈ rchUp D fc D.frags.length) => join_in RA RB RCC hs)
      have JC := Lib.hid (join_count RA RB RCC D.frags.length (Nat.le_refl _))
      have HLa := rch_size D fa D.frags.length
      have HLb := rch_size D fb D.frags.length
      have HLc := rch_size D fc D.frags.length
      clear RA RB RCC
      obtain ⟨RAL, hRAL⟩ : ∃ x, rchUp D fa D.frags.length = x := ⟨_, rfl⟩
      obtain ⟨RBL, hRBL⟩ : ∃ x, rchUp D fb D.frags.length = x := ⟨_, rfl⟩
      obtain ⟨RCL, hRCL⟩ : ∃ x, rchUp D fc D.frags.length = x := ⟨_, rfl⟩
      rw [hRAL, hRBL, hRCL] at JI
      rw [hRAL, hRBL, hRCL] at JC
      rw [hRAL] at Oa HLa
      rw [hRBL] at Ob HLb
      rw [hRCL] at Oc HLc
      clear hRAL hRBL hRCL HFa HFb HFc
      obtain ⟨Aa, ca, rfl⟩ := shape_own Oa.out
      obtain ⟨Ab, cb, rfl⟩ := shape_own Ob.out
      obtain ⟨Ac, cc, rfl⟩ := shape_own Oc.out
      go_wp2_with fail
      go_loopg [10] RCL.length (fun g t wx => ∃ q : Nat, q + g = RCL.length ∧ t = .int .i64 q ∧ Asd (Below w10.heap.size w10 wx))
      case atStart => exact ⟨0, by omega, rfl, Asd.intro (Below.refl _ _)⟩
      case round =>
        obtain ⟨q, hq, rfl, HX⟩ := hrel
        have BL := Lib.hid HX.out
        clear HX
        have Oa1 := Lib.hid (own_low Oa.out BL.out)
        have Ob1 := Lib.hid (own_low Ob.out BL.out)
        have Oc1 := Lib.hid (own_low Oc.out BL.out)
        cases gk with
        | zero =>
          obtain rfl : q = RCL.length := by omega
          have B11 := Lib.hid (B10.out.trans (BL.out.mono (by have h1 := B10.out.size; have h2 := HN.out; omega)))
          obtain ⟨w11, hw11⟩ : ∃ x, x = wr := ⟨_, rfl⟩
          subst hw11
          clear Oa Ob Oc BL Oc1
          go_wp2_with fail
          go_loopg [11, 12] RBL.length (fun g v t wx => ∃ q : Nat, q + g = RBL.length ∧ t = .int .i64 q ∧ v = .int .i64 ((RBL.take q).countP (fun s => !inN RAL s) : Nat) ∧ Asd (Below w11.heap.size w11 wx))
          case atStart => exact ⟨0, by omega, rfl, rfl, Asd.intro (Below.refl _ _)⟩
          case round =>
            obtain ⟨q, hq, rfl, rfl, HX⟩ := hrel
            have BL := Lib.hid HX.out
            clear HX
            have Oa2 := Lib.hid (own_low Oa1.out BL.out)
            have Ob2 := Lib.hid (own_low Ob1.out BL.out)
            have hcp : (RBL.take q).countP (fun s => !inN RAL s) ≤ q := Nat.le_trans List.countP_le_length (by rw [List.length_take]; omega)
            cases gk with
            | zero =>
              obtain rfl : q = RBL.length := by omega
              have B12 := Lib.hid (B11.out.trans (BL.out.mono (by have h1 := B11.out.size; have h2 := HN.out; omega)))
              rw [List.take_length] at hcp ⊢
              have hjc : ((RCL.length : Nat) : Int) = (RAL.length : Int) + ((RBL.countP (fun s => !inN RAL s) : Nat) : Int) := by have := JC.out; omega
              have hjw : wrap64 ((RAL.length : Int) + ((RBL.countP (fun s => !inN RAL s) : Nat) : Int)) = (RCL.length : Int) := by rw [← hjc]; unfold wrap64; omega
              generalize RBL.countP (fun s => !inN RAL s) = cn at hcp hjc hjw ⊢
              go_wp2_with fail
              refine (awake_any _).mono ?_
              rintro e wa ⟨rfl, hba⟩
              have BA := Lib.hid (B12.out.trans (hba.mono (by have h1 := B12.out.size; have h2 := HN.out; omega)))
              clear hba
              go_wp2_with fail
              go_ret
              rw [HN.out]
              exact ⟨rfl, BA.out⟩
            | succ g =>
              have hqn : q < RBL.length := by omega
              have hqn' : (q : Int) < (RBL.length : Int) := by omega
              obtain ⟨s, hx⟩ : ∃ s, RBL[q]? = some s := ⟨_, List.getElem?_eq_getElem hqn⟩
              obtain ⟨g1, cp1, e1⟩ := (World.ownsRow.form Ob2.out (by omega))
              injection e1.1 with e2 e3 e4
              subst e2 e4
              have hsc := Ob2.out.cells (g := g1) rfl q (.string s) (by rw [List.getElem?_map, hx]; rfl)
              rw [add_at, Nat.zero_add] at hsc
              have HA := Lib.hid (has_any _ _ RAL s wr Oa2.out (by omega))
              have hnx : (RBL.take (q + 1)).countP (fun s => !inN RAL s) = (RBL.take q).countP (fun s => !inN RAL s) + (if inN RAL s = true then 0 else 1) := by
                rw [List.take_add_one, hx, List.countP_append]
                cases hq : inN RAL s <;> simp [hq]
              have HNX := Lib.hid hnx
              clear hx e1 hnx
              obtain ⟨b, hb⟩ : ∃ b, inN RAL s = b := ⟨_, rfl⟩
              rw [hb] at HA HNX
              generalize (RBL.take q).countP (fun s => !inN RAL s) = cn at hcp HNX ⊢
              cases b with
              | true =>
                go_wp2_with fail
                refine HA.out.mono ?_
                rintro e w13 ⟨rfl, hb13⟩
                have B13 := Lib.hid (BL.out.trans (hb13.mono BL.out.size))
                clear hb13 HA
                go_wp2_with fail
                go_roundg g
                case measure => omega
                case rel => exact ⟨q + 1, by omega, by go_num, by rw [HNX.out]; rfl, Asd.intro B13.out⟩
              | false =>
                go_wp2_with fail
                refine HA.out.mono ?_
                rintro e w13 ⟨rfl, hb13⟩
                have B13 := Lib.hid (BL.out.trans (hb13.mono BL.out.size))
                clear hb13 HA
                go_wp2_with fail
                go_roundg g
                case measure => omega
                case rel => exact ⟨q + 1, by omega, by go_num, by rw [HNX.out]; go_num, Asd.intro B13.out⟩
        | succ g =>
          have hqn : q < RCL.length := by omega
          have hqn' : (q : Int) < (RCL.length : Int) := by omega
          obtain ⟨s, hx⟩ : ∃ s, RCL[q]? = some s := ⟨_, List.getElem?_eq_getElem hqn⟩
          obtain ⟨g1, cp1, e1⟩ := (World.ownsRow.form Oc1.out (by omega))
          injection e1.1 with e2 e3 e4
          subst e2 e4
          have hsc := Oc1.out.cells (g := g1) rfl q (.string s) (by rw [List.getElem?_map, hx]; rfl)
          rw [add_at, Nat.zero_add] at hsc
          have hgl := World.block_lt_of_cell? wr _ hsc
          have HSC := Lib.hid hsc
          have HA := Lib.hid (has_any _ _ RAL s wr Oa1.out (by omega))
          have HBF := Lib.hid (fun (wx : World) (h : Below wr.heap.size wr wx) => has_any _ _ RBL s wx (own_low Ob1.out h) (by omega))
          have HJ := JI.out s (List.mem_of_getElem? hx)
          clear hx e1
          obtain ⟨b, hb⟩ : ∃ b, inN RAL s = b := ⟨_, rfl⟩
          obtain ⟨b2, hb2⟩ : ∃ b, inN RBL s = b := ⟨_, rfl⟩
          rw [hb] at HA HJ
          simp only [hb2] at HBF HJ
          have HJ := Lib.hid HJ
          cases b with
          | true =>
            go_wp2_with fail
            refine HA.out.mono ?_
            rintro e w13 ⟨rfl, hb13⟩
            have B13 := Lib.hid (BL.out.trans (hb13.mono BL.out.size))
            clear hb13 HA
            go_wp2_with fail
            go_roundg g
            case measure => omega
            case rel => exact ⟨q + 1, by omega, by go_num, Asd.intro B13.out⟩
          | false =>
            obtain rfl : b2 = true := HJ.out
            go_wp2_with fail
            refine HA.out.mono ?_
            rintro e w13 ⟨rfl, hb13⟩
            have B13 := Lib.hid (BL.out.trans (hb13.mono BL.out.size))
            have hs13 := (hb13.cell (p := ⟨g1, q, none⟩) hgl).trans HSC.out
            have HB2 := Lib.hid (HBF.out _ hb13)
            clear hb13 HA hsc
            go_wp2_with fail
            refine HB2.out.mono ?_
            rintro e w14 ⟨rfl, hb14⟩
            have B14 := Lib.hid (B13.out.trans (hb14.mono B13.out.size))
            clear hb14 HB2
            go_wp2_with fail
            go_roundg g
            case measure => omega
            case rel => exact ⟨q + 1, by omega, by go_num, Asd.intro B14.out⟩
end LGJoins
end Go.Proofs.Ytohkimibphleaaa
