/- The walk of the law GraphCloses. (gen_gcloses.py wrote it.) -/
import Derived.Test.YtohkimibphleaaaGrCloseP
import Derived.Test.YtohkimibphleaaaGrFrag
import Derived.Test.YtohkimibphleaaaGrAwakeW
import Derived.Test.YtohkimibphleaaaGrLightD
namespace Go.Proofs.Ytohkimibphleaaa
open Go.RowKit

theorem doc1_ts {w : World} {B g : Nat} {l : SelL} {A1 : Option Addr} {k1 : Nat} (h : w.heap[g]? = some (.cells #[.string ⟨#[]⟩, .string ⟨#[]⟩, .slice none 0 0, .slice A1 l.len k1] 30 (0, 0))) (hg : g < B) (h1 : RowT w (fun b => b < B) (encSL l) A1) (hl : l.len ≤ 9223372036854775807) :
    TS w (fun b => b < B) (encDoc ⟨[], [⟨⟨#[]⟩, ⟨#[]⟩, [], l⟩]⟩) [.slice none 0 0, .slice (some ⟨g, 0, none⟩) 1 1] := by
  have hc := cells_at (l := [.string ⟨#[]⟩, .string ⟨#[]⟩, .slice none 0 0, .slice A1 l.len k1]) h
  have hF : ∀ (l : SelL) (A : Option Addr) (k : Nat), RowT w (fun b => b < B) (encSL l) A → l.len ≤ 9223372036854775807 → TS w (fun b => b < B) (encF ⟨⟨#[]⟩, ⟨#[]⟩, [], l⟩) [.string ⟨#[]⟩, .string ⟨#[]⟩, .slice none 0 0, .slice A l.len k] := fun l A k hR hl => by
    unfold encF
    simp only [TS, TP]
    exact ⟨_, _, rfl, ⟨rfl, by show (0 : Nat) ≤ _; decide⟩, _, _, rfl, ⟨rfl, by show (0 : Nat) ≤ _; decide⟩, _, _, rfl, ⟨none, 0, rfl, Nat.zero_le _, by rw [rowOf]; unfold RowT; trivial⟩, _, _, rfl, ⟨A, k, by rw [encSL_len], by rw [encSL_len]; exact hl, hR⟩, rfl⟩
  unfold encDoc
  simp only [TS, TP]
  refine ⟨_, _, rfl, ⟨none, 0, rfl, Nat.zero_le _, by rw [rowOf]; unfold RowT; trivial⟩, _, _, rfl, ⟨some ⟨g, 0, none⟩, 1, rfl, by show (1 : Nat) ≤ _; decide, ?_⟩, rfl⟩
  rw [rowOf]
  unfold RowT
  refine ⟨g, 0, [.string ⟨#[]⟩, .string ⟨#[]⟩, .slice none 0 0, .slice A1 l.len k1], rfl, hg, fun j u hj => ?_, hF l A1 k1 h1 hl, by rw [rowOf]; unfold RowT; trivial⟩
  match j, hj with
  | 0, hj => rw [← Option.some.inj hj]; exact hc 0 _ rfl
  | 1, hj => rw [← Option.some.inj hj]; exact hc 1 _ rfl
  | 2, hj => rw [← Option.some.inj hj]; exact hc 2 _ rfl
  | 3, hj => rw [← Option.some.inj hj]; exact hc 3 _ rfl
namespace LGCloses
set_option maxRecDepth 100000 in
set_option maxHeartbeats 8000000 in
theorem walk (w : World) (D : DocT) (c0 c1 : Value) (l : SelL) (A1 : Option Addr) (k1 : Nat) (hD : DocAt w w.heap.size D c0 c1) (hZ : szDoc D ≤ 1048576) (h1 : SelsAt w w.heap.size l A1) (hk1 : l.len ≤ k1) (hz1 : szSels l ≤ 1048576) :
    Calls Try.prog 3 #[.agg #[c0, c1], .slice A1 l.len k1] w fun e w' => e = .returned (.bool true) ∧ Below w.heap.size w w' := by
  obtain ⟨Ao, ko, Af, kf, rfl, rfl, _⟩ := doc_cells hD.1
  have hfl := frags_sz D
  have hl1 := sels_len l
  have hg1 := gpreL_sz l
  obtain ⟨n, hn⟩ : ∃ n, w.heap.size = n := ⟨_, rfl⟩
  have HD := Lib.hid hD
  have LG1 := Lib.hid (fun (wx : World) (h : Below w.heap.size w wx) => glight_any D _ _ wx w.heap.size h.size (hD.below h).1)
  have LG2 := Lib.hid (fun (wx : World) (g : Nat) (h : Below w.heap.size w wx) (hg : wx.heap[g]? = some (.cells #[.string ⟨#[]⟩, .string ⟨#[]⟩, .slice none 0 0, .slice A1 l.len k1] 30 (0, 0))) => glight_any _ _ _ wx wx.heap.size (Nat.le_refl _) (doc1_ts hg (Array.getElem?_eq_some_iff.1 hg).1 ((h1.below h).keep h.size (fun _ _ => rfl)).1 (by omega)))
  have RC := Lib.hid (fun (wx : World) (l : SelL) (A : Option Addr) (k B2 : Nat) (h : Below w.heap.size w wx) (hB2 : B2 ≤ wx.heap.size) (hS : SelsAt wx B2 l A) (hk : l.len ≤ k) (hz : szSels l ≤ 1048576) => reach_any D _ _ l A k wx w.heap.size B2 h.size hB2 (hD.below h) (by omega) hS hk (by omega))
  have SP := Lib.hid (fun (wx : World) (h : Below w.heap.size w wx) => spreads_any l A1 k1 wx w.heap.size h.size (h1.below h) hk1 _ rfl (by omega))
  have FC := Lib.hid (fun (wx : World) (s : ByteArray) (h : Below w.heap.size w wx) => frag_any D _ _ s wx w.heap.size h.size (hD.below h) (by omega))
  have HS1 := Lib.hid (fun (wx : World) (h : Below w.heap.size w wx) => h1.below h)
  have FZ := Lib.hid (fun (x : FragT) (h : x ∈ D.frags) => (show szSels x.sels ≤ 1048576 by have := frag_sz h; omega))
  have hsx : (sprL (gpreL l)).length ≤ 1048576 := by have := spr_all (gpreL l); omega
  have HN := Lib.hid hn
  clear hD h1 hg1
  go_enter Try.func3, Try.ntmps3
  go_upto_region 1 with fail
  have B1 : Hid (Below n w (w.alloc (.cells #[.slice Ao D.ops.length ko, .slice Af D.frags.length kf] 25))) := Lib.hid (by rw [← hn]; exact gnew _ _)
  have DX1 : Hid ((w.alloc (.cells #[.slice Ao D.ops.length ko, .slice Af D.frags.length kf] 25)).heap[n]? = some (.cells #[.slice Ao D.ops.length ko, .slice Af D.frags.length kf] 25 (0, 0))) := Lib.hid (by rw [← hn]; exact heap_alloc_new _ _)
  generalize w.alloc (.cells #[.slice Ao D.ops.length ko, .slice Af D.frags.length kf] 25) = w1 at B1 DX1 ⊢
  rw [hn] at LG1 LG2 RC SP FC HS1
  clear hn
  obtain ⟨⟨x0, x1⟩, _⟩ := gcells2 DX1.out
  go_wp2_with fail
  refine (LG1.out _ B1.out).mono ?_
  rintro e w2 ⟨b1, rfl, hb2⟩
  have B2 := Lib.hid (B1.out.trans (hb2.mono (by have h1 := B1.out.size; have h2 := HN.out; omega)))
  have DX2 := Lib.hid ((hb2.block n (Array.getElem?_eq_some_iff.1 DX1.out).1).trans DX1.out)
  clear hb2 B1 DX1 LG1 x0 x1
  cases b1 with
  | false =>
    go_wp2_with fail
    refine (awake_any _).mono ?_
    rintro e wa ⟨rfl, hba⟩
    have BA := Lib.hid (B2.out.trans (hba.mono (by have h1 := B2.out.size; have h2 := HN.out; omega)))
    clear hba
    go_wp2_with fail
    go_ret
    rw [HN.out]
    exact ⟨rfl, BA.out⟩
  | true =>
    have hbf := gnew w2 (.cells #[.string ⟨#[]⟩, .string ⟨#[]⟩, .slice none 0 0, .slice A1 l.len k1] 30)
    have LX := Lib.hid (LG2.out (w2.alloc (.cells #[.string ⟨#[]⟩, .string ⟨#[]⟩, .slice none 0 0, .slice A1 l.len k1] 30)) w2.heap.size (B2.out.trans (hbf.mono (by have h1 := B2.out.size; have h2 := HN.out; omega))) (heap_alloc_new _ _))
    have HBF := Lib.hid hbf
    clear hbf LG2
    go_wp2_with fail
    refine LX.out.mono ?_
    rintro e w3 ⟨b2, rfl, hb3⟩
    have hb23 := HBF.out.trans (hb3.mono HBF.out.size)
    have B3 := Lib.hid (B2.out.trans (hb23.mono (by have h1 := B2.out.size; have h2 := HN.out; omega)))
    have DX3 := Lib.hid ((hb23.block n (Array.getElem?_eq_some_iff.1 DX2.out).1).trans DX2.out)
    clear hb3 hb23 HBF LX B2 DX2
    cases b2 with
    | false =>
      go_wp2_with fail
      refine (awake_any _).mono ?_
      rintro e wa ⟨rfl, hba⟩
      have BA := Lib.hid (B3.out.trans (hba.mono (by have h1 := B3.out.size; have h2 := HN.out; omega)))
      clear hba
      go_wp2_with fail
      go_ret
      rw [HN.out]
      exact ⟨rfl, BA.out⟩
    | true =>
      obtain ⟨⟨x0, x1⟩, _⟩ := gcells2 DX3.out
      go_wp2_with fail
      refine (RC.out w3 l A1 k1 n B3.out (by have h1 := B3.out.size; have h2 := HN.out; omega) (by have h := HS1.out _ B3.out; exact h) hk1 hz1).mono ?_
      rintro e w4 ⟨Va, fa, rfl, hf, ho, hb⟩
      have HFa : Hid (RchF D (sprL (gpreL l)) fa) := Lib.hid hf
      have Oa := Lib.hid ho
      have B4 := Lib.hid (B3.out.trans (hb.mono (by have h1 := B3.out.size; have h2 := HN.out; omega)))
      have DX4 := Lib.hid ((hb.block n (Array.getElem?_eq_some_iff.1 DX3.out).1).trans DX3.out)
      clear hf ho hb B3 DX3 x0 x1
      go_wp2_with fail
      refine (SP.out w4 B4.out).mono ?_
      rintro e w5 ⟨Vx, rfl, ho, hb⟩
      have Oa := Lib.hid (own_low Oa.out hb)
      have Ox := Lib.hid ho
      have B5 := Lib.hid (B4.out.trans (hb.mono (by have h1 := B4.out.size; have h2 := HN.out; omega)))
      have DX5 := Lib.hid ((hb.block n (Array.getElem?_eq_some_iff.1 DX4.out).1).trans DX4.out)
      clear ho hb B4 DX4 SP HS1
      have CI := Lib.hid (fun s (hs : s ∈ sprL (gpreL l)) => clos_in HFa.out hs)
      have CN := Lib.hid (fun s (hs : s ∈ rchUp D fa D.frags.length) => clos_name HFa.out hs)
      have CS := Lib.hid (fun (q : Nat) (x : FragT) (g : Nat → Bool) (s : ByteArray) (hq : fa q = true) (hx : D.frags[q]? = some x) (hg : RchF D (sprL (gpreL x.sels)) g) (hs : s ∈ rchUp D g D.frags.length) => clos_sub HFa.out hq hx hg hs)
      have hla := rch_size D fa D.frags.length
      obtain ⟨RL, hRL⟩ : ∃ x, rchUp D fa D.frags.length = x := ⟨_, rfl⟩
      obtain ⟨XL, hXL⟩ : ∃ x, sprL (gpreL l) = x := ⟨_, rfl⟩
      rw [hRL] at Oa hla CN CS
      rw [hRL, hXL] at CI
      rw [hXL] at Ox hsx
      clear hRL hXL HFa
      obtain ⟨Aa, ca, rfl⟩ := shape_own Oa.out
      obtain ⟨Ax, cx, rfl⟩ := shape_own Ox.out
      go_wp2_with fail
      go_loopg [7] XL.length (fun g t wx => ∃ q : Nat, q + g = XL.length ∧ t = .int .i64 q ∧ Asd (Below w5.heap.size w5 wx))
      case atStart => exact ⟨0, by omega, rfl, Asd.intro (Below.refl _ _)⟩
      case round =>
        obtain ⟨q, hq, rfl, HX⟩ := hrel
        have BL := Lib.hid HX.out
        clear HX
        have Oa1 := Lib.hid (own_low Oa.out BL.out)
        have Ox1 := Lib.hid (own_low Ox.out BL.out)
        have B6 := Lib.hid (B5.out.trans (BL.out.mono (by have h1 := B5.out.size; have h2 := HN.out; omega)))
        have DX6 := Lib.hid ((BL.out.block n (Array.getElem?_eq_some_iff.1 DX5.out).1).trans DX5.out)
        obtain ⟨⟨x0, x1⟩, _⟩ := gcells2 DX6.out
        cases gk with
        | zero =>
          obtain rfl : q = XL.length := by omega
          obtain ⟨w10, hw10⟩ : ∃ x, x = wr := ⟨_, rfl⟩
          subst hw10
          have B5 := B6
          have DX5 := DX6
          clear Oa Ox Ox1 BL B6 DX6 CI
          go_wp2_with fail
          clear x0 x1
          go_loopg [10] RL.length (fun g t wx => ∃ q : Nat, q + g = RL.length ∧ t = .int .i64 q ∧ Asd (Below w10.heap.size w10 wx))
          case atStart => exact ⟨0, by omega, rfl, Asd.intro (Below.refl _ _)⟩
          case round =>
            obtain ⟨q, hq, rfl, HX⟩ := hrel
            have BL := Lib.hid HX.out
            clear HX
            have Oa2 := Lib.hid (own_low Oa1.out BL.out)
            have B6 := Lib.hid (B5.out.trans (BL.out.mono (by have h1 := B5.out.size; have h2 := HN.out; omega)))
            have DX6 := Lib.hid ((BL.out.block n (Array.getElem?_eq_some_iff.1 DX5.out).1).trans DX5.out)
            obtain ⟨⟨x0, x1⟩, _⟩ := gcells2 DX6.out
            cases gk with
            | zero =>
              go_wp2_with fail
              refine (awake_any _).mono ?_
              rintro e wa ⟨rfl, hba⟩
              have BA := Lib.hid (B6.out.trans (hba.mono (by have h1 := B6.out.size; have h2 := HN.out; omega)))
              clear hba
              go_wp2_with fail
              go_ret
              rw [HN.out]
              exact ⟨rfl, BA.out⟩
            | succ g =>
              have hqn : q < RL.length := by omega
              have hqn' : (q : Int) < (RL.length : Int) := by omega
              obtain ⟨s, hx⟩ : ∃ s, RL[q]? = some s := ⟨_, List.getElem?_eq_getElem hqn⟩
              obtain ⟨g1, cp1, e1⟩ := (World.ownsRow.form Oa2.out (by omega))
              injection e1.1 with e2 e3 e4
              subst e2 e4
              have hsc := Oa2.out.cells (g := g1) rfl q (.string s) (by rw [List.getElem?_map, hx]; rfl)
              rw [add_at, Nat.zero_add] at hsc
              have hgl : g1 < wr.heap.size := World.block_lt_of_cell? wr _ hsc
              have HSC := Lib.hid hsc
              have HSX := Lib.hid (List.mem_of_getElem? hx)
              clear e1 hx
              go_upto_region 14 with fail
              refine wp_region_held_drew (S := fun w' => (w'.cell? ⟨n, 0, none⟩ = some (.slice Ao D.ops.length ko) ∧ w'.cell? ⟨n, 1, none⟩ = some (.slice Af D.frags.length kf)) ∧ w'.cell? ⟨g1, q, none⟩ = some (.string s)) (by kernel_rfl) (by have h2 := gdrew wr; exact ⟨(gcells2 ((h2.block n (Array.getElem?_eq_some_iff.1 DX6.out).1).trans DX6.out)).1, (h2.cell (p := ⟨g1, q, none⟩) hgl).trans HSC.out⟩) (fun hHeld => ?_)
              obtain ⟨wd, hwd⟩ : ∃ X, wr.drew = X := ⟨_, rfl⟩
              rw [hwd] at hHeld ⊢
              have hd : Below wr.heap.size wr wd := by rw [← hwd]; exact gdrew wr
              have B7 := Lib.hid (B6.out.trans (hd.mono (by have h1 := B6.out.size; have h2 := HN.out; omega)))
              have KW := Lib.hid (BL.out.trans (hd.mono BL.out.size))
              have KR := Lib.hid hd
              have HSW : Hid (∀ W, Below wd.heap.size wd W → (W.cell? ⟨n, 0, none⟩ = some (.slice Ao D.ops.length ko) ∧ W.cell? ⟨n, 1, none⟩ = some (.slice Af D.frags.length kf)) ∧ W.cell? ⟨g1, q, none⟩ = some (.string s)) := Lib.hid (fun W h => by
                have h2 : Below wr.heap.size wr W := hd.trans (h.mono hd.size)
                refine ⟨(gcells2 ((h2.block n (Array.getElem?_eq_some_iff.1 DX6.out).1).trans DX6.out)).1, (h2.cell (p := ⟨g1, q, none⟩) hgl).trans HSC.out⟩)
              have KD0 : Hid (Below wd.heap.size wd wd) := Lib.hid (Below.refl _ _)
              have F7 := Lib.hid (fun W (h : Below wd.heap.size wd W) => FC.out W s (B7.out.trans (h.mono (by have h1 := B7.out.size; have h2 := HN.out; omega))))
              clear hwd hd x0 x1 hsc
              obtain ⟨⟨x0, x1⟩, hsc⟩ := HSW.out _ KD0.out
              refine wpAnyH_take (i := 0) (oi := _) (v := ?_) rfl (by kernel_rfl) (by kernel_rfl) (by kernel_rfl) (fun _ _ _ h => h) (Or.inl ⟨by rfl, ?_⟩) (by first | assumption | trivial) ?_
              rotate_left
              · (intro w hSw; (try dsimp only at hSw); go_simp; try with_reducible rfl)
              try simp only [Act.put, List.getElem_toArray, List.getElem_cons_zero, List.setIfInBounds_toArray, List.set_cons_zero, List.set_cons_succ]
              refine wpAnyH_take (i := 1) (oi := _) (v := ?_) rfl (by kernel_rfl) (by kernel_rfl) (by kernel_rfl) (fun _ _ _ h => h) (Or.inl ⟨by rfl, ?_⟩) (by first | assumption | trivial) ?_
              rotate_left
              · (intro w hSw; (try dsimp only at hSw); go_simp; try with_reducible rfl)
              try simp only [Act.put, List.getElem_toArray, List.getElem_cons_zero, List.getElem_cons_succ, List.setIfInBounds_toArray, List.set_cons_zero, List.set_cons_succ]
              refine wpAnyH_take (i := 2) (oi := _) (v := ?_) rfl (by kernel_rfl) (by kernel_rfl) (by kernel_rfl) (fun _ _ _ h => h) (Or.inl ⟨by rfl, ?_⟩) (by first | assumption | trivial) ?_
              rotate_left
              · (intro w hSw; (try dsimp only at hSw); go_simp; try with_reducible rfl)
              try simp only [Act.put, List.getElem_toArray, List.getElem_cons_zero, List.getElem_cons_succ, List.setIfInBounds_toArray, List.set_cons_zero, List.set_cons_succ]
              refine wpAnyH_take (i := 3) (oi := _) (v := ?_) rfl (by kernel_rfl) (by kernel_rfl) (by kernel_rfl) (fun _ _ _ h => h) (Or.inl ⟨by rfl, ?_⟩) (by first | assumption | trivial) ?_
              rotate_left
              · (intro w hSw; (try dsimp only at hSw); go_simp; try with_reducible rfl)
              try simp only [Act.put, List.getElem_toArray, List.getElem_cons_zero, List.getElem_cons_succ, List.setIfInBounds_toArray, List.set_cons_zero, List.set_cons_succ]
              refine wpAnyH_take (i := 4) (oi := _) (v := ?_) rfl (by kernel_rfl) (by kernel_rfl) (by kernel_rfl) (fun _ _ _ h => h) (Or.inl ⟨by rfl, ?_⟩) (by first | assumption | trivial) ?_
              rotate_left
              · (intro w hSw; (try dsimp only at hSw); go_simp; try with_reducible rfl)
              try simp only [Act.put, List.getElem_toArray, List.getElem_cons_zero, List.getElem_cons_succ, List.setIfInBounds_toArray, List.set_cons_zero, List.set_cons_succ]
              refine wpAnyH_ready (rs := [5, 9]) (by kernel_rfl) (by simp) ?_
              refine AllReadyH.cons (o := _) rfl (fun K hK => ?_) ?_
              · go_simp
                refine (F7.out _ KD0.out).mono ?_
                rintro e wf ⟨nm, on, Ad, nd, kd, As, ns, ks, rfl, hfs, hb⟩
                have HFS := Lib.hid hfs
                have KD1 := Lib.hid (KD0.out.trans (hb.mono KD0.out.size))
                clear hb hfs
                go_wp2_with fail
                refine hK.out _ _ (HSW.out _ KD1.out) (fun hHeld => ?_)
                clear hK K
                try simp only [Act.put, List.getElem_toArray, List.getElem_cons_zero, List.getElem_cons_succ, List.setIfInBounds_toArray, List.set_cons_zero, List.set_cons_succ]
                refine wpAnyH_take (i := 6) (oi := _) (v := ?_) rfl (by kernel_rfl) (by kernel_rfl) (by kernel_rfl) (fun _ _ _ h => h) (Or.inl ⟨by rfl, ?_⟩) (by first | assumption | trivial) ?_
                rotate_left
                · (intro w hSw; (try dsimp only at hSw); go_simp; try with_reducible rfl)
                try simp only [Act.put, List.getElem_toArray, List.getElem_cons_zero, List.getElem_cons_succ, List.setIfInBounds_toArray, List.set_cons_zero, List.set_cons_succ]
                refine wpAnyH_take (i := 7) (oi := _) (v := ?_) rfl (by kernel_rfl) (by kernel_rfl) (by kernel_rfl) (fun _ _ _ h => h) (Or.inl ⟨by rfl, ?_⟩) (by first | assumption | trivial) ?_
                rotate_left
                · (intro w hSw; (try dsimp only at hSw); go_simp; try with_reducible rfl)
                try simp only [Act.put, List.getElem_toArray, List.getElem_cons_zero, List.getElem_cons_succ, List.setIfInBounds_toArray, List.set_cons_zero, List.set_cons_succ]
                refine wpAnyH_take (i := 8) (oi := _) (v := ?_) rfl (by kernel_rfl) (by kernel_rfl) (by kernel_rfl) (fun _ _ _ h => h) (Or.inl ⟨by rfl, ?_⟩) (by first | assumption | trivial) ?_
                rotate_left
                · (intro w hSw; (try dsimp only at hSw); go_simp; try with_reducible rfl)
                try simp only [Act.put, List.getElem_toArray, List.getElem_cons_zero, List.getElem_cons_succ, List.setIfInBounds_toArray, List.set_cons_zero, List.set_cons_succ]
                refine wpAnyH_ready (rs := [9]) (by kernel_rfl) (by simp) ?_
                refine AllReadyH.cons (o := _) rfl (fun K hK => ?_) AllReadyH.nil
                go_simp
                have KD2 := Lib.hid (KD1.out.alloc KD1.out.size (.cells #[.string ⟨#[]⟩, .string ⟨#[]⟩, .slice none 0 0, .slice none 0 0] 30))
                have FX : Hid ((wf.alloc (.cells #[.string ⟨#[]⟩, .string ⟨#[]⟩, .slice none 0 0, .slice none 0 0] 30)).heap[wf.heap.size]? = some (.cells #[.string ⟨#[]⟩, .string ⟨#[]⟩, .slice none 0 0, .slice none 0 0] 30 (0, 0))) := Lib.hid (heap_alloc_new _ _)
                have KF : Hid (Below wf.heap.size wf (wf.alloc (.cells #[.string ⟨#[]⟩, .string ⟨#[]⟩, .slice none 0 0, .slice none 0 0] 30))) := Lib.hid (gnew _ _)
                refine hK.out _ _ (HSW.out _ KD2.out) (fun hHeld => ?_)
                clear hK K
                try simp only [Act.put, List.getElem_toArray, List.getElem_cons_zero, List.getElem_cons_succ, List.setIfInBounds_toArray, List.set_cons_zero, List.set_cons_succ]
                refine wpAnyH_ready (rs := [10]) (by kernel_rfl) (by simp) ?_
                refine AllReadyH.cons (o := _) rfl (fun K hK => ?_) AllReadyH.nil
                obtain ⟨w8, hw8⟩ : ∃ X, (wf.alloc (.cells #[.string ⟨#[]⟩, .string ⟨#[]⟩, .slice none 0 0, .slice none 0 0] 30)) = X := ⟨_, rfl⟩
                rw [hw8] at FX KD2 KF hHeld ⊢
                obtain ⟨⟨r0, r1, r2, r3⟩, v0, v1, v2, v3⟩ := gcells4 FX.out
                go_simp
                refine hK.out _ _ (HSW.out _ ((((KD2.out.setCell (p := ⟨wf.heap.size, 0, none⟩) KD1.out.size _).setCell (p := ⟨wf.heap.size, 1, none⟩) KD1.out.size _).setCell (p := ⟨wf.heap.size, 2, none⟩) KD1.out.size _).setCell (p := ⟨wf.heap.size, 3, none⟩) KD1.out.size _)) (fun hHeld => ?_)
                clear hK K
                try simp only [Act.put, List.getElem_toArray, List.getElem_cons_zero, List.getElem_cons_succ, List.setIfInBounds_toArray, List.set_cons_zero, List.set_cons_succ]
                refine wpAnyH_take (i := 11) (oi := _) (v := ?_) rfl (by kernel_rfl) (by kernel_rfl) (by kernel_rfl) (fun _ _ _ h => h) (Or.inl ⟨by rfl, ?_⟩) (by first | assumption | trivial) ?_
                rotate_left
                · (intro w hSw; (try dsimp only at hSw); go_simp; try with_reducible rfl)
                try simp only [Act.put, List.getElem_toArray, List.getElem_cons_zero, List.getElem_cons_succ, List.setIfInBounds_toArray, List.set_cons_zero, List.set_cons_succ]
                refine wpAnyH_done (by kernel_rfl) ?_ _
                obtain ⟨wz, hwz⟩ : ∃ X, ((((w8.setCell ⟨wf.heap.size, 0, none⟩ (.string nm)).setCell ⟨wf.heap.size, 1, none⟩ (.string on)).setCell ⟨wf.heap.size, 2, none⟩ (.slice Ad nd kd)).setCell ⟨wf.heap.size, 3, none⟩ (.slice As ns ks)) = X := ⟨_, rfl⟩
                rw [hwz]
                have KZ : Hid (Below wd.heap.size wd wz) := Lib.hid (by
                  rw [← hwz]
                  exact (((KD2.out.setCell (p := ⟨wf.heap.size, 0, none⟩) KD1.out.size _).setCell (p := ⟨wf.heap.size, 1, none⟩) KD1.out.size _).setCell (p := ⟨wf.heap.size, 2, none⟩) KD1.out.size _).setCell (p := ⟨wf.heap.size, 3, none⟩) KD1.out.size _)
                have FZ7 : Hid (wz.heap[wf.heap.size]? = some (.cells #[.string nm, .string on, .slice Ad nd kd, .slice As ns ks] 30 (0, 0))) := Lib.hid (by
                  have hb := FX.out
                  rw [← hwz]
                  simp [World.setCell, Array.getElem?_modify, hb])
                have hk : ∀ b, b ≠ wf.heap.size → wz.heap[b]? = w8.heap[b]? := fun b hb => by
                  rw [← hwz]
                  exact (Below.heap_setCell _ _ _ _ hb).trans ((Below.heap_setCell _ _ _ _ hb).trans ((Below.heap_setCell _ _ _ _ hb).trans (Below.heap_setCell _ _ _ _ hb)))
                have hz : wz.heap.size = w8.heap.size := by rw [← hwz]; simp [World.setCell]
                obtain ⟨⟨x0, x1⟩, hsc⟩ := HSW.out _ KZ.out
                clear hwz hHeld
                obtain ⟨hin, hfi, x, hx⟩ := CN.out s HSX.out
                obtain ⟨rfl, hks, hSel⟩ := HFS.out x hin hx
                have hsel : SelsAt wz wz.heap.size x.sels As := hSel wz (by rw [hz]; exact KF.out.size) (fun b hb hl => (hk b (by omega)).trans (KF.out.block b hl))
                simp only [hin]
                have BZ := Lib.hid (B7.out.trans (KZ.out.mono (by have h1 := B7.out.size; have h2 := HN.out; omega)))
                have RX := Lib.hid (RC.out wz x.sels As ks wz.heap.size BZ.out (Nat.le_refl _) hsel hks (FZ.out x (List.mem_of_getElem? hx)))
                have CX := Lib.hid (fun (g : Nat → Bool) (t : ByteArray) (hg : RchF D (sprL (gpreL x.sels)) g) (ht : t ∈ rchUp D g D.frags.length) => CS.out _ x g t hfi hx hg ht)
                have O12 := Lib.hid (own_low Oa2.out (KR.out.trans (KZ.out.mono KR.out.size)))
                have K12 := Lib.hid (KW.out.trans (KZ.out.mono KW.out.size))
                obtain ⟨⟨r0, r1, r2, r3⟩, _⟩ := gcells4 FZ7.out
                clear hk hz KZ HFS F7 FX KF KD0 KD1 KD2 HSW hin hfi hx hsel hSel hsc BZ KW KR
                go_wp2_with fail
                refine RX.out.mono ?_
                rintro e w12 ⟨Vm, fm, rfl, hf, ho, hb⟩
                have CM := Lib.hid (fun (t : ByteArray) (ht : t ∈ rchUp D fm D.frags.length) => CX.out fm t hf ht)
                have Om := Lib.hid ho
                have O13 := Lib.hid (own_low O12.out hb)
                have K13 := Lib.hid (K12.out.trans (hb.mono K12.out.size))
                have hlm := rch_size D fm D.frags.length
                clear hf ho hb CX RX O12 K12 x0 x1 r0 r1 r2 r3 FZ7
                obtain ⟨ML, hML⟩ : ∃ x, rchUp D fm D.frags.length = x := ⟨_, rfl⟩
                rw [hML] at CM Om hlm
                clear hML
                obtain ⟨Am, cm, rfl⟩ := shape_own Om.out
                go_wp2_with fail
                go_loopg [14] ML.length (fun g t wx => ∃ q : Nat, q + g = ML.length ∧ t = .int .i64 q ∧ Asd (Below w12.heap.size w12 wx))
                case atStart => exact ⟨0, by omega, rfl, Asd.intro (Below.refl _ _)⟩
                case round =>
                  obtain ⟨r, hr, rfl, HX⟩ := hrel
                  have BM := Lib.hid HX.out
                  clear HX
                  cases gk with
                  | zero =>
                    have K14 := Lib.hid (K13.out.trans (BM.out.mono K13.out.size))
                    obtain rfl : r = ML.length := by omega
                    go_wp2_with fail
                    go_roundg g
                    case measure => omega
                    case rel => exact ⟨q + 1, by omega, by go_num, Asd.intro K14.out⟩
                  | succ g5 =>
                    have Om2 := Lib.hid (own_low Om.out BM.out)
                    have hrn : r < ML.length := by omega
                    have hrn' : (r : Int) < (ML.length : Int) := by omega
                    obtain ⟨t, ht⟩ : ∃ t, ML[r]? = some t := ⟨_, List.getElem?_eq_getElem hrn⟩
                    obtain ⟨g2, cp2, e1⟩ := (World.ownsRow.form Om2.out (by omega))
                    injection e1.1 with e2 e3 e4
                    subst e2 e4
                    have hsm := Om2.out.cells (g := g2) rfl r (.string t) (by rw [List.getElem?_map, ht]; rfl)
                    rw [add_at, Nat.zero_add] at hsm
                    have HA := Lib.hid (has_any _ _ RL t wr (own_low O13.out BM.out) (by omega))
                    rw [CM.out t (List.mem_of_getElem? ht)] at HA
                    clear e1 ht
                    go_wp2_with fail
                    refine HA.out.mono ?_
                    rintro e w15 ⟨rfl, hb15⟩
                    have K15 := Lib.hid (BM.out.trans (hb15.mono BM.out.size))
                    clear hb15 HA
                    go_wp2_with fail
                    go_roundg g5
                    case measure => omega
                    case rel => exact ⟨r + 1, by omega, by go_num, Asd.intro K15.out⟩
              refine AllReadyH.cons (o := _) rfl (fun K hK => ?_) AllReadyH.nil
              go_simp
              have KD1 := Lib.hid (KD0.out.alloc KD0.out.size (.cells #[.string ⟨#[]⟩, .string ⟨#[]⟩, .slice none 0 0, .slice none 0 0] 30))
              have FX : Hid ((wd.alloc (.cells #[.string ⟨#[]⟩, .string ⟨#[]⟩, .slice none 0 0, .slice none 0 0] 30)).heap[wd.heap.size]? = some (.cells #[.string ⟨#[]⟩, .string ⟨#[]⟩, .slice none 0 0, .slice none 0 0] 30 (0, 0))) := Lib.hid (heap_alloc_new _ _)
              refine hK.out _ _ (HSW.out _ KD1.out) (fun hHeld => ?_)
              clear hK K
              try simp only [Act.put, List.getElem_toArray, List.getElem_cons_zero, List.getElem_cons_succ, List.setIfInBounds_toArray, List.set_cons_zero, List.set_cons_succ]
              refine wpAnyH_ready (rs := [5]) (by kernel_rfl) (by simp) ?_
              refine AllReadyH.cons (o := _) rfl (fun K hK => ?_) AllReadyH.nil
              go_simp
              refine (F7.out _ KD1.out).mono ?_
              rintro e wf ⟨nm, on, Ad, nd, kd, As, ns, ks, rfl, hfs, hb⟩
              have HFS := Lib.hid hfs
              have KD2 := Lib.hid (KD1.out.trans (hb.mono KD1.out.size))
              have FX := Lib.hid ((hb.block _ (Array.getElem?_eq_some_iff.1 FX.out).1).trans FX.out)
              have KF : Hid (Below wf.heap.size wf wf ∧ wd.heap.size < wf.heap.size) := Lib.hid ⟨Below.refl _ _, (Array.getElem?_eq_some_iff.1 FX.out).1⟩
              clear hb hfs
              go_wp2_with fail
              refine hK.out _ _ (HSW.out _ KD2.out) (fun hHeld => ?_)
              clear hK K
              try simp only [Act.put, List.getElem_toArray, List.getElem_cons_zero, List.getElem_cons_succ, List.setIfInBounds_toArray, List.set_cons_zero, List.set_cons_succ]
              refine wpAnyH_take (i := 6) (oi := _) (v := ?_) rfl (by kernel_rfl) (by kernel_rfl) (by kernel_rfl) (fun _ _ _ h => h) (Or.inl ⟨by rfl, ?_⟩) (by first | assumption | trivial) ?_
              rotate_left
              · (intro w hSw; (try dsimp only at hSw); go_simp; try with_reducible rfl)
              try simp only [Act.put, List.getElem_toArray, List.getElem_cons_zero, List.getElem_cons_succ, List.setIfInBounds_toArray, List.set_cons_zero, List.set_cons_succ]
              refine wpAnyH_take (i := 7) (oi := _) (v := ?_) rfl (by kernel_rfl) (by kernel_rfl) (by kernel_rfl) (fun _ _ _ h => h) (Or.inl ⟨by rfl, ?_⟩) (by first | assumption | trivial) ?_
              rotate_left
              · (intro w hSw; (try dsimp only at hSw); go_simp; try with_reducible rfl)
              try simp only [Act.put, List.getElem_toArray, List.getElem_cons_zero, List.getElem_cons_succ, List.setIfInBounds_toArray, List.set_cons_zero, List.set_cons_succ]
              refine wpAnyH_take (i := 8) (oi := _) (v := ?_) rfl (by kernel_rfl) (by kernel_rfl) (by kernel_rfl) (fun _ _ _ h => h) (Or.inl ⟨by rfl, ?_⟩) (by first | assumption | trivial) ?_
              rotate_left
              · (intro w hSw; (try dsimp only at hSw); go_simp; try with_reducible rfl)
              try simp only [Act.put, List.getElem_toArray, List.getElem_cons_zero, List.getElem_cons_succ, List.setIfInBounds_toArray, List.set_cons_zero, List.set_cons_succ]
              refine wpAnyH_ready (rs := [10]) (by kernel_rfl) (by simp) ?_
              refine AllReadyH.cons (o := _) rfl (fun K hK => ?_) AllReadyH.nil
              obtain ⟨⟨r0, r1, r2, r3⟩, v0, v1, v2, v3⟩ := gcells4 FX.out
              go_simp
              refine hK.out _ _ (HSW.out _ ((((KD2.out.setCell (p := ⟨wd.heap.size, 0, none⟩) (Nat.le_refl _) _).setCell (p := ⟨wd.heap.size, 1, none⟩) (Nat.le_refl _) _).setCell (p := ⟨wd.heap.size, 2, none⟩) (Nat.le_refl _) _).setCell (p := ⟨wd.heap.size, 3, none⟩) (Nat.le_refl _) _)) (fun hHeld => ?_)
              clear hK K
              try simp only [Act.put, List.getElem_toArray, List.getElem_cons_zero, List.getElem_cons_succ, List.setIfInBounds_toArray, List.set_cons_zero, List.set_cons_succ]
              refine wpAnyH_take (i := 11) (oi := _) (v := ?_) rfl (by kernel_rfl) (by kernel_rfl) (by kernel_rfl) (fun _ _ _ h => h) (Or.inl ⟨by rfl, ?_⟩) (by first | assumption | trivial) ?_
              rotate_left
              · (intro w hSw; (try dsimp only at hSw); go_simp; try with_reducible rfl)
              try simp only [Act.put, List.getElem_toArray, List.getElem_cons_zero, List.getElem_cons_succ, List.setIfInBounds_toArray, List.set_cons_zero, List.set_cons_succ]
              refine wpAnyH_done (by kernel_rfl) ?_ _
              obtain ⟨wz, hwz⟩ : ∃ X, ((((wf.setCell ⟨wd.heap.size, 0, none⟩ (.string nm)).setCell ⟨wd.heap.size, 1, none⟩ (.string on)).setCell ⟨wd.heap.size, 2, none⟩ (.slice Ad nd kd)).setCell ⟨wd.heap.size, 3, none⟩ (.slice As ns ks)) = X := ⟨_, rfl⟩
              rw [hwz]
              have KZ : Hid (Below wd.heap.size wd wz) := Lib.hid (by
                rw [← hwz]
                exact (((KD2.out.setCell (p := ⟨wd.heap.size, 0, none⟩) (Nat.le_refl _) _).setCell (p := ⟨wd.heap.size, 1, none⟩) (Nat.le_refl _) _).setCell (p := ⟨wd.heap.size, 2, none⟩) (Nat.le_refl _) _).setCell (p := ⟨wd.heap.size, 3, none⟩) (Nat.le_refl _) _)
              have FZ7 : Hid (wz.heap[wd.heap.size]? = some (.cells #[.string nm, .string on, .slice Ad nd kd, .slice As ns ks] 30 (0, 0))) := Lib.hid (by
                have hb := FX.out
                rw [← hwz]
                simp [World.setCell, Array.getElem?_modify, hb])
              have hk : ∀ b, b ≠ wd.heap.size → wz.heap[b]? = wf.heap[b]? := fun b hb => by
                rw [← hwz]
                exact (Below.heap_setCell _ _ _ _ hb).trans ((Below.heap_setCell _ _ _ _ hb).trans ((Below.heap_setCell _ _ _ _ hb).trans (Below.heap_setCell _ _ _ _ hb)))
              have hz : wz.heap.size = wf.heap.size := by rw [← hwz]; simp [World.setCell]
              obtain ⟨⟨x0, x1⟩, hsc⟩ := HSW.out _ KZ.out
              clear hwz hHeld
              obtain ⟨hin, hfi, x, hx⟩ := CN.out s HSX.out
              obtain ⟨rfl, hks, hSel⟩ := HFS.out x hin hx
              have hsel : SelsAt wz wz.heap.size x.sels As := hSel wz (by rw [hz]; exact Nat.le_refl _) (fun b hb hl => hk b (by have h1 := B7.out.size; have h3 := HN.out; have h2 : (wd.alloc (.cells #[.string ⟨#[]⟩, .string ⟨#[]⟩, .slice none 0 0, .slice none 0 0] 30)).heap.size = wd.heap.size + 1 := World.size_alloc _ _; omega))
              simp only [hin]
              have BZ := Lib.hid (B7.out.trans (KZ.out.mono (by have h1 := B7.out.size; have h2 := HN.out; omega)))
              have RX := Lib.hid (RC.out wz x.sels As ks wz.heap.size BZ.out (Nat.le_refl _) hsel hks (FZ.out x (List.mem_of_getElem? hx)))
              have CX := Lib.hid (fun (g : Nat → Bool) (t : ByteArray) (hg : RchF D (sprL (gpreL x.sels)) g) (ht : t ∈ rchUp D g D.frags.length) => CS.out _ x g t hfi hx hg ht)
              have O12 := Lib.hid (own_low Oa2.out (KR.out.trans (KZ.out.mono KR.out.size)))
              have K12 := Lib.hid (KW.out.trans (KZ.out.mono KW.out.size))
              obtain ⟨⟨r0, r1, r2, r3⟩, _⟩ := gcells4 FZ7.out
              clear hk hz KZ HFS F7 FX KF KD0 KD1 KD2 HSW hin hfi hx hsel hSel hsc BZ KW KR
              go_wp2_with fail
              refine RX.out.mono ?_
              rintro e w12 ⟨Vm, fm, rfl, hf, ho, hb⟩
              have CM := Lib.hid (fun (t : ByteArray) (ht : t ∈ rchUp D fm D.frags.length) => CX.out fm t hf ht)
              have Om := Lib.hid ho
              have O13 := Lib.hid (own_low O12.out hb)
              have K13 := Lib.hid (K12.out.trans (hb.mono K12.out.size))
              have hlm := rch_size D fm D.frags.length
              clear hf ho hb CX RX O12 K12 x0 x1 r0 r1 r2 r3 FZ7
              obtain ⟨ML, hML⟩ : ∃ x, rchUp D fm D.frags.length = x := ⟨_, rfl⟩
              rw [hML] at CM Om hlm
              clear hML
              obtain ⟨Am, cm, rfl⟩ := shape_own Om.out
              go_wp2_with fail
              go_loopg [14] ML.length (fun g t wx => ∃ q : Nat, q + g = ML.length ∧ t = .int .i64 q ∧ Asd (Below w12.heap.size w12 wx))
              case atStart => exact ⟨0, by omega, rfl, Asd.intro (Below.refl _ _)⟩
              case round =>
                obtain ⟨r, hr, rfl, HX⟩ := hrel
                have BM := Lib.hid HX.out
                clear HX
                cases gk with
                | zero =>
                  have K14 := Lib.hid (K13.out.trans (BM.out.mono K13.out.size))
                  obtain rfl : r = ML.length := by omega
                  go_wp2_with fail
                  go_roundg g
                  case measure => omega
                  case rel => exact ⟨q + 1, by omega, by go_num, Asd.intro K14.out⟩
                | succ g5 =>
                  have Om2 := Lib.hid (own_low Om.out BM.out)
                  have hrn : r < ML.length := by omega
                  have hrn' : (r : Int) < (ML.length : Int) := by omega
                  obtain ⟨t, ht⟩ : ∃ t, ML[r]? = some t := ⟨_, List.getElem?_eq_getElem hrn⟩
                  obtain ⟨g2, cp2, e1⟩ := (World.ownsRow.form Om2.out (by omega))
                  injection e1.1 with e2 e3 e4
                  subst e2 e4
                  have hsm := Om2.out.cells (g := g2) rfl r (.string t) (by rw [List.getElem?_map, ht]; rfl)
                  rw [add_at, Nat.zero_add] at hsm
                  have HA := Lib.hid (has_any _ _ RL t wr (own_low O13.out BM.out) (by omega))
                  rw [CM.out t (List.mem_of_getElem? ht)] at HA
                  clear e1 ht
                  go_wp2_with fail
                  refine HA.out.mono ?_
                  rintro e w15 ⟨rfl, hb15⟩
                  have K15 := Lib.hid (BM.out.trans (hb15.mono BM.out.size))
                  clear hb15 HA
                  go_wp2_with fail
                  go_roundg g5
                  case measure => omega
                  case rel => exact ⟨r + 1, by omega, by go_num, Asd.intro K15.out⟩
        | succ g =>
          have hqn : q < XL.length := by omega
          have hqn' : (q : Int) < (XL.length : Int) := by omega
          obtain ⟨s, hx⟩ : ∃ s, XL[q]? = some s := ⟨_, List.getElem?_eq_getElem hqn⟩
          obtain ⟨g1, cp1, e1⟩ := (World.ownsRow.form Ox1.out (by omega))
          injection e1.1 with e2 e3 e4
          subst e2 e4
          have hsc := Ox1.out.cells (g := g1) rfl q (.string s) (by rw [List.getElem?_map, hx]; rfl)
          rw [add_at, Nat.zero_add] at hsc
          have hgl : g1 < wr.heap.size := World.block_lt_of_cell? wr _ hsc
          have HSC := Lib.hid hsc
          have HSX := Lib.hid (List.mem_of_getElem? hx)
          clear e1 hx
          go_upto_region 8 with fail
          refine wp_region_held_drew (S := fun w' => (w'.cell? ⟨n, 0, none⟩ = some (.slice Ao D.ops.length ko) ∧ w'.cell? ⟨n, 1, none⟩ = some (.slice Af D.frags.length kf)) ∧ w'.cell? ⟨g1, q, none⟩ = some (.string s)) (by kernel_rfl) (by have h2 := gdrew wr; exact ⟨(gcells2 ((h2.block n (Array.getElem?_eq_some_iff.1 DX6.out).1).trans DX6.out)).1, (h2.cell (p := ⟨g1, q, none⟩) hgl).trans HSC.out⟩) (fun hHeld => ?_)
          obtain ⟨wd, hwd⟩ : ∃ X, wr.drew = X := ⟨_, rfl⟩
          rw [hwd] at hHeld ⊢
          have hd : Below wr.heap.size wr wd := by rw [← hwd]; exact gdrew wr
          have B7 := Lib.hid (B6.out.trans (hd.mono (by have h1 := B6.out.size; have h2 := HN.out; omega)))
          have KW := Lib.hid (BL.out.trans (hd.mono BL.out.size))
          have KR := Lib.hid hd
          have HSW : Hid (∀ W, Below wd.heap.size wd W → (W.cell? ⟨n, 0, none⟩ = some (.slice Ao D.ops.length ko) ∧ W.cell? ⟨n, 1, none⟩ = some (.slice Af D.frags.length kf)) ∧ W.cell? ⟨g1, q, none⟩ = some (.string s)) := Lib.hid (fun W h => by
            have h2 : Below wr.heap.size wr W := hd.trans (h.mono hd.size)
            refine ⟨(gcells2 ((h2.block n (Array.getElem?_eq_some_iff.1 DX6.out).1).trans DX6.out)).1, (h2.cell (p := ⟨g1, q, none⟩) hgl).trans HSC.out⟩)
          have KD0 : Hid (Below wd.heap.size wd wd) := Lib.hid (Below.refl _ _)
          have F7 := Lib.hid (fun W (h : Below wd.heap.size wd W) => FC.out W s (B7.out.trans (h.mono (by have h1 := B7.out.size; have h2 := HN.out; omega))))
          clear hwd hd x0 x1 hsc
          obtain ⟨⟨x0, x1⟩, hsc⟩ := HSW.out _ KD0.out
          refine wpAnyH_take (i := 0) (oi := _) (v := ?_) rfl (by kernel_rfl) (by kernel_rfl) (by kernel_rfl) (fun _ _ _ h => h) (Or.inl ⟨by rfl, ?_⟩) (by first | assumption | trivial) ?_
          rotate_left
          · (intro w hSw; (try dsimp only at hSw); go_simp; try with_reducible rfl)
          try simp only [Act.put, List.getElem_toArray, List.getElem_cons_zero, List.setIfInBounds_toArray, List.set_cons_zero, List.set_cons_succ]
          refine wpAnyH_take (i := 1) (oi := _) (v := ?_) rfl (by kernel_rfl) (by kernel_rfl) (by kernel_rfl) (fun _ _ _ h => h) (Or.inl ⟨by rfl, ?_⟩) (by first | assumption | trivial) ?_
          rotate_left
          · (intro w hSw; (try dsimp only at hSw); go_simp; try with_reducible rfl)
          try simp only [Act.put, List.getElem_toArray, List.getElem_cons_zero, List.getElem_cons_succ, List.setIfInBounds_toArray, List.set_cons_zero, List.set_cons_succ]
          refine wpAnyH_take (i := 2) (oi := _) (v := ?_) rfl (by kernel_rfl) (by kernel_rfl) (by kernel_rfl) (fun _ _ _ h => h) (Or.inl ⟨by rfl, ?_⟩) (by first | assumption | trivial) ?_
          rotate_left
          · (intro w hSw; (try dsimp only at hSw); go_simp; try with_reducible rfl)
          try simp only [Act.put, List.getElem_toArray, List.getElem_cons_zero, List.getElem_cons_succ, List.setIfInBounds_toArray, List.set_cons_zero, List.set_cons_succ]
          refine wpAnyH_take (i := 3) (oi := _) (v := ?_) rfl (by kernel_rfl) (by kernel_rfl) (by kernel_rfl) (fun _ _ _ h => h) (Or.inl ⟨by rfl, ?_⟩) (by first | assumption | trivial) ?_
          rotate_left
          · (intro w hSw; (try dsimp only at hSw); go_simp; try with_reducible rfl)
          try simp only [Act.put, List.getElem_toArray, List.getElem_cons_zero, List.getElem_cons_succ, List.setIfInBounds_toArray, List.set_cons_zero, List.set_cons_succ]
          refine wpAnyH_take (i := 4) (oi := _) (v := ?_) rfl (by kernel_rfl) (by kernel_rfl) (by kernel_rfl) (fun _ _ _ h => h) (Or.inl ⟨by rfl, ?_⟩) (by first | assumption | trivial) ?_
          rotate_left
          · (intro w hSw; (try dsimp only at hSw); go_simp; try with_reducible rfl)
          try simp only [Act.put, List.getElem_toArray, List.getElem_cons_zero, List.getElem_cons_succ, List.setIfInBounds_toArray, List.set_cons_zero, List.set_cons_succ]
          refine wpAnyH_ready (rs := [5, 9]) (by kernel_rfl) (by simp) ?_
          refine AllReadyH.cons (o := _) rfl (fun K hK => ?_) ?_
          · go_simp
            refine (F7.out _ KD0.out).mono ?_
            rintro e wf ⟨nm, on, Ad, nd, kd, As, ns, ks, rfl, hfs, hb⟩
            have HFS := Lib.hid hfs
            have KD1 := Lib.hid (KD0.out.trans (hb.mono KD0.out.size))
            clear hb hfs
            go_wp2_with fail
            refine hK.out _ _ (HSW.out _ KD1.out) (fun hHeld => ?_)
            clear hK K
            try simp only [Act.put, List.getElem_toArray, List.getElem_cons_zero, List.getElem_cons_succ, List.setIfInBounds_toArray, List.set_cons_zero, List.set_cons_succ]
            refine wpAnyH_take (i := 6) (oi := _) (v := ?_) rfl (by kernel_rfl) (by kernel_rfl) (by kernel_rfl) (fun _ _ _ h => h) (Or.inl ⟨by rfl, ?_⟩) (by first | assumption | trivial) ?_
            rotate_left
            · (intro w hSw; (try dsimp only at hSw); go_simp; try with_reducible rfl)
            try simp only [Act.put, List.getElem_toArray, List.getElem_cons_zero, List.getElem_cons_succ, List.setIfInBounds_toArray, List.set_cons_zero, List.set_cons_succ]
            refine wpAnyH_take (i := 7) (oi := _) (v := ?_) rfl (by kernel_rfl) (by kernel_rfl) (by kernel_rfl) (fun _ _ _ h => h) (Or.inl ⟨by rfl, ?_⟩) (by first | assumption | trivial) ?_
            rotate_left
            · (intro w hSw; (try dsimp only at hSw); go_simp; try with_reducible rfl)
            try simp only [Act.put, List.getElem_toArray, List.getElem_cons_zero, List.getElem_cons_succ, List.setIfInBounds_toArray, List.set_cons_zero, List.set_cons_succ]
            refine wpAnyH_take (i := 8) (oi := _) (v := ?_) rfl (by kernel_rfl) (by kernel_rfl) (by kernel_rfl) (fun _ _ _ h => h) (Or.inl ⟨by rfl, ?_⟩) (by first | assumption | trivial) ?_
            rotate_left
            · (intro w hSw; (try dsimp only at hSw); go_simp; try with_reducible rfl)
            try simp only [Act.put, List.getElem_toArray, List.getElem_cons_zero, List.getElem_cons_succ, List.setIfInBounds_toArray, List.set_cons_zero, List.set_cons_succ]
            refine wpAnyH_ready (rs := [9]) (by kernel_rfl) (by simp) ?_
            refine AllReadyH.cons (o := _) rfl (fun K hK => ?_) AllReadyH.nil
            go_simp
            have KD2 := Lib.hid (KD1.out.alloc KD1.out.size (.cells #[.string ⟨#[]⟩, .string ⟨#[]⟩, .slice none 0 0, .slice none 0 0] 30))
            have FX : Hid ((wf.alloc (.cells #[.string ⟨#[]⟩, .string ⟨#[]⟩, .slice none 0 0, .slice none 0 0] 30)).heap[wf.heap.size]? = some (.cells #[.string ⟨#[]⟩, .string ⟨#[]⟩, .slice none 0 0, .slice none 0 0] 30 (0, 0))) := Lib.hid (heap_alloc_new _ _)
            have KF : Hid (Below wf.heap.size wf (wf.alloc (.cells #[.string ⟨#[]⟩, .string ⟨#[]⟩, .slice none 0 0, .slice none 0 0] 30))) := Lib.hid (gnew _ _)
            refine hK.out _ _ (HSW.out _ KD2.out) (fun hHeld => ?_)
            clear hK K
            try simp only [Act.put, List.getElem_toArray, List.getElem_cons_zero, List.getElem_cons_succ, List.setIfInBounds_toArray, List.set_cons_zero, List.set_cons_succ]
            refine wpAnyH_ready (rs := [10]) (by kernel_rfl) (by simp) ?_
            refine AllReadyH.cons (o := _) rfl (fun K hK => ?_) AllReadyH.nil
            obtain ⟨w8, hw8⟩ : ∃ X, (wf.alloc (.cells #[.string ⟨#[]⟩, .string ⟨#[]⟩, .slice none 0 0, .slice none 0 0] 30)) = X := ⟨_, rfl⟩
            rw [hw8] at FX KD2 KF hHeld ⊢
            obtain ⟨⟨r0, r1, r2, r3⟩, v0, v1, v2, v3⟩ := gcells4 FX.out
            go_simp
            refine hK.out _ _ (HSW.out _ ((((KD2.out.setCell (p := ⟨wf.heap.size, 0, none⟩) KD1.out.size _).setCell (p := ⟨wf.heap.size, 1, none⟩) KD1.out.size _).setCell (p := ⟨wf.heap.size, 2, none⟩) KD1.out.size _).setCell (p := ⟨wf.heap.size, 3, none⟩) KD1.out.size _)) (fun hHeld => ?_)
            clear hK K
            try simp only [Act.put, List.getElem_toArray, List.getElem_cons_zero, List.getElem_cons_succ, List.setIfInBounds_toArray, List.set_cons_zero, List.set_cons_succ]
            refine wpAnyH_take (i := 11) (oi := _) (v := ?_) rfl (by kernel_rfl) (by kernel_rfl) (by kernel_rfl) (fun _ _ _ h => h) (Or.inl ⟨by rfl, ?_⟩) (by first | assumption | trivial) ?_
            rotate_left
            · (intro w hSw; (try dsimp only at hSw); go_simp; try with_reducible rfl)
            try simp only [Act.put, List.getElem_toArray, List.getElem_cons_zero, List.getElem_cons_succ, List.setIfInBounds_toArray, List.set_cons_zero, List.set_cons_succ]
            refine wpAnyH_done (by kernel_rfl) ?_ _
            obtain ⟨wz, hwz⟩ : ∃ X, ((((w8.setCell ⟨wf.heap.size, 0, none⟩ (.string nm)).setCell ⟨wf.heap.size, 1, none⟩ (.string on)).setCell ⟨wf.heap.size, 2, none⟩ (.slice Ad nd kd)).setCell ⟨wf.heap.size, 3, none⟩ (.slice As ns ks)) = X := ⟨_, rfl⟩
            rw [hwz]
            have KZ : Hid (Below wd.heap.size wd wz) := Lib.hid (by
              rw [← hwz]
              exact (((KD2.out.setCell (p := ⟨wf.heap.size, 0, none⟩) KD1.out.size _).setCell (p := ⟨wf.heap.size, 1, none⟩) KD1.out.size _).setCell (p := ⟨wf.heap.size, 2, none⟩) KD1.out.size _).setCell (p := ⟨wf.heap.size, 3, none⟩) KD1.out.size _)
            have FZ7 : Hid (wz.heap[wf.heap.size]? = some (.cells #[.string nm, .string on, .slice Ad nd kd, .slice As ns ks] 30 (0, 0))) := Lib.hid (by
              have hb := FX.out
              rw [← hwz]
              simp [World.setCell, Array.getElem?_modify, hb])
            have hk : ∀ b, b ≠ wf.heap.size → wz.heap[b]? = w8.heap[b]? := fun b hb => by
              rw [← hwz]
              exact (Below.heap_setCell _ _ _ _ hb).trans ((Below.heap_setCell _ _ _ _ hb).trans ((Below.heap_setCell _ _ _ _ hb).trans (Below.heap_setCell _ _ _ _ hb)))
            have hz : wz.heap.size = w8.heap.size := by rw [← hwz]; simp [World.setCell]
            obtain ⟨⟨x0, x1⟩, hsc⟩ := HSW.out _ KZ.out
            clear hwz hHeld
            have HA := Lib.hid (has_any _ _ RL s wz (own_low Oa1.out (KR.out.trans (KZ.out.mono KR.out.size))) (by omega))
            rw [CI.out s HSX.out] at HA
            generalize inN (namesF D) s = b at HA ⊢
            have KZ5 := Lib.hid (KW.out.trans (KZ.out.mono KW.out.size))
            clear hk hz KZ FZ7 HFS F7 FX KF KD0 KD1 KD2 HSW
            go_wp2_with fail
            refine HA.out.mono ?_
            rintro e w9 ⟨rfl, hb9⟩
            have K9 := Lib.hid (KZ5.out.trans (hb9.mono KZ5.out.size))
            clear hb9 HA
            go_wp2_with fail
            go_roundg g
            case measure => omega
            case rel => exact ⟨q + 1, by omega, by go_num, Asd.intro K9.out⟩
          refine AllReadyH.cons (o := _) rfl (fun K hK => ?_) AllReadyH.nil
          go_simp
          have KD1 := Lib.hid (KD0.out.alloc KD0.out.size (.cells #[.string ⟨#[]⟩, .string ⟨#[]⟩, .slice none 0 0, .slice none 0 0] 30))
          have FX : Hid ((wd.alloc (.cells #[.string ⟨#[]⟩, .string ⟨#[]⟩, .slice none 0 0, .slice none 0 0] 30)).heap[wd.heap.size]? = some (.cells #[.string ⟨#[]⟩, .string ⟨#[]⟩, .slice none 0 0, .slice none 0 0] 30 (0, 0))) := Lib.hid (heap_alloc_new _ _)
          refine hK.out _ _ (HSW.out _ KD1.out) (fun hHeld => ?_)
          clear hK K
          try simp only [Act.put, List.getElem_toArray, List.getElem_cons_zero, List.getElem_cons_succ, List.setIfInBounds_toArray, List.set_cons_zero, List.set_cons_succ]
          refine wpAnyH_ready (rs := [5]) (by kernel_rfl) (by simp) ?_
          refine AllReadyH.cons (o := _) rfl (fun K hK => ?_) AllReadyH.nil
          go_simp
          refine (F7.out _ KD1.out).mono ?_
          rintro e wf ⟨nm, on, Ad, nd, kd, As, ns, ks, rfl, hfs, hb⟩
          have HFS := Lib.hid hfs
          have KD2 := Lib.hid (KD1.out.trans (hb.mono KD1.out.size))
          have FX := Lib.hid ((hb.block _ (Array.getElem?_eq_some_iff.1 FX.out).1).trans FX.out)
          have KF : Hid (Below wf.heap.size wf wf ∧ wd.heap.size < wf.heap.size) := Lib.hid ⟨Below.refl _ _, (Array.getElem?_eq_some_iff.1 FX.out).1⟩
          clear hb hfs
          go_wp2_with fail
          refine hK.out _ _ (HSW.out _ KD2.out) (fun hHeld => ?_)
          clear hK K
          try simp only [Act.put, List.getElem_toArray, List.getElem_cons_zero, List.getElem_cons_succ, List.setIfInBounds_toArray, List.set_cons_zero, List.set_cons_succ]
          refine wpAnyH_take (i := 6) (oi := _) (v := ?_) rfl (by kernel_rfl) (by kernel_rfl) (by kernel_rfl) (fun _ _ _ h => h) (Or.inl ⟨by rfl, ?_⟩) (by first | assumption | trivial) ?_
          rotate_left
          · (intro w hSw; (try dsimp only at hSw); go_simp; try with_reducible rfl)
          try simp only [Act.put, List.getElem_toArray, List.getElem_cons_zero, List.getElem_cons_succ, List.setIfInBounds_toArray, List.set_cons_zero, List.set_cons_succ]
          refine wpAnyH_take (i := 7) (oi := _) (v := ?_) rfl (by kernel_rfl) (by kernel_rfl) (by kernel_rfl) (fun _ _ _ h => h) (Or.inl ⟨by rfl, ?_⟩) (by first | assumption | trivial) ?_
          rotate_left
          · (intro w hSw; (try dsimp only at hSw); go_simp; try with_reducible rfl)
          try simp only [Act.put, List.getElem_toArray, List.getElem_cons_zero, List.getElem_cons_succ, List.setIfInBounds_toArray, List.set_cons_zero, List.set_cons_succ]
          refine wpAnyH_take (i := 8) (oi := _) (v := ?_) rfl (by kernel_rfl) (by kernel_rfl) (by kernel_rfl) (fun _ _ _ h => h) (Or.inl ⟨by rfl, ?_⟩) (by first | assumption | trivial) ?_
          rotate_left
          · (intro w hSw; (try dsimp only at hSw); go_simp; try with_reducible rfl)
          try simp only [Act.put, List.getElem_toArray, List.getElem_cons_zero, List.getElem_cons_succ, List.setIfInBounds_toArray, List.set_cons_zero, List.set_cons_succ]
          refine wpAnyH_ready (rs := [10]) (by kernel_rfl) (by simp) ?_
          refine AllReadyH.cons (o := _) rfl (fun K hK => ?_) AllReadyH.nil
          obtain ⟨⟨r0, r1, r2, r3⟩, v0, v1, v2, v3⟩ := gcells4 FX.out
          go_simp
          refine hK.out _ _ (HSW.out _ ((((KD2.out.setCell (p := ⟨wd.heap.size, 0, none⟩) (Nat.le_refl _) _).setCell (p := ⟨wd.heap.size, 1, none⟩) (Nat.le_refl _) _).setCell (p := ⟨wd.heap.size, 2, none⟩) (Nat.le_refl _) _).setCell (p := ⟨wd.heap.size, 3, none⟩) (Nat.le_refl _) _)) (fun hHeld => ?_)
          clear hK K
          try simp only [Act.put, List.getElem_toArray, List.getElem_cons_zero, List.getElem_cons_succ, List.setIfInBounds_toArray, List.set_cons_zero, List.set_cons_succ]
          refine wpAnyH_take (i := 11) (oi := _) (v := ?_) rfl (by kernel_rfl) (by kernel_rfl) (by kernel_rfl) (fun _ _ _ h => h) (Or.inl ⟨by rfl, ?_⟩) (by first | assumption | trivial) ?_
          rotate_left
          · (intro w hSw; (try dsimp only at hSw); go_simp; try with_reducible rfl)
          try simp only [Act.put, List.getElem_toArray, List.getElem_cons_zero, List.getElem_cons_succ, List.setIfInBounds_toArray, List.set_cons_zero, List.set_cons_succ]
          refine wpAnyH_done (by kernel_rfl) ?_ _
          obtain ⟨wz, hwz⟩ : ∃ X, ((((wf.setCell ⟨wd.heap.size, 0, none⟩ (.string nm)).setCell ⟨wd.heap.size, 1, none⟩ (.string on)).setCell ⟨wd.heap.size, 2, none⟩ (.slice Ad nd kd)).setCell ⟨wd.heap.size, 3, none⟩ (.slice As ns ks)) = X := ⟨_, rfl⟩
          rw [hwz]
          have KZ : Hid (Below wd.heap.size wd wz) := Lib.hid (by
            rw [← hwz]
            exact (((KD2.out.setCell (p := ⟨wd.heap.size, 0, none⟩) (Nat.le_refl _) _).setCell (p := ⟨wd.heap.size, 1, none⟩) (Nat.le_refl _) _).setCell (p := ⟨wd.heap.size, 2, none⟩) (Nat.le_refl _) _).setCell (p := ⟨wd.heap.size, 3, none⟩) (Nat.le_refl _) _)
          have FZ7 : Hid (wz.heap[wd.heap.size]? = some (.cells #[.string nm, .string on, .slice Ad nd kd, .slice As ns ks] 30 (0, 0))) := Lib.hid (by
            have hb := FX.out
            rw [← hwz]
            simp [World.setCell, Array.getElem?_modify, hb])
          have hk : ∀ b, b ≠ wd.heap.size → wz.heap[b]? = wf.heap[b]? := fun b hb => by
            rw [← hwz]
            exact (Below.heap_setCell _ _ _ _ hb).trans ((Below.heap_setCell _ _ _ _ hb).trans ((Below.heap_setCell _ _ _ _ hb).trans (Below.heap_setCell _ _ _ _ hb)))
          have hz : wz.heap.size = wf.heap.size := by rw [← hwz]; simp [World.setCell]
          obtain ⟨⟨x0, x1⟩, hsc⟩ := HSW.out _ KZ.out
          clear hwz hHeld
          have HA := Lib.hid (has_any _ _ RL s wz (own_low Oa1.out (KR.out.trans (KZ.out.mono KR.out.size))) (by omega))
          rw [CI.out s HSX.out] at HA
          generalize inN (namesF D) s = b at HA ⊢
          have KZ5 := Lib.hid (KW.out.trans (KZ.out.mono KW.out.size))
          clear hk hz KZ FZ7 HFS F7 FX KF KD0 KD1 KD2 HSW
          go_wp2_with fail
          refine HA.out.mono ?_
          rintro e w9 ⟨rfl, hb9⟩
          have K9 := Lib.hid (KZ5.out.trans (hb9.mono KZ5.out.size))
          clear hb9 HA
          go_wp2_with fail
          go_roundg g
          case measure => omega
          case rel => exact ⟨q + 1, by omega, by go_num, Asd.intro K9.out⟩
end LGCloses
end Go.Proofs.Ytohkimibphleaaa
