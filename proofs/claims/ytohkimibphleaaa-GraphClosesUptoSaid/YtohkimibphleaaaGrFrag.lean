/- graph.Frag: the first fragment of this name. (gen_grfrag.py wrote it.) -/
import Derived.Test.YtohkimibphleaaaGrOwn
import Derived.Test.YtohkimibphleaaaGrNet
import Derived.Test.YtohkimibphleaaaGrHas
import Derived.Test.YtohkimibphleaaaGrJoinP
import Derived.Laws.ResultCell
namespace Go.Proofs.Ytohkimibphleaaa
open Go.RowKit

theorem mlen_sz : ∀ m : VM, m.len ≤ sizeM m
  | .nil => by rw [VM.len]; exact Nat.zero_le _
  | .cons nm v t => by
    have h := mlen_sz t
    rw [VM.len, sizeM]
    cases v
    rw [sizeV]
    omega
theorem frag_lens {D : DocT} {x : FragT} (h : x ∈ D.frags) : x.dirs.length ≤ szDoc D ∧ (∀ d, d ∈ x.dirs → d.2.len ≤ szDoc D) ∧ x.sels.len ≤ szDoc D := by
  have h1 := sum_mem (f := szFr) h
  have h2 : szFr x ≤ szDoc D := by unfold szDoc; omega
  unfold szFr at h2
  have h3 := sum_len (f := szDr) (l := x.dirs) (k := 2) (fun a _ => by unfold szDr; omega)
  have h4 := sels_len x.sels
  refine ⟨by omega, fun d hd => ?_, by omega⟩
  have h5 := sum_mem (f := szDr) hd
  have h6 := mlen_sz d.2
  unfold szDr at h5
  have h7 : d.1.size + 2 + sizeM d.2 ≤ (x.dirs.map szDr).sum := h5
  omega
theorem gres_fragb {fn : Func} {a : Act} {W : World} {x0 x1 x2 x3 v : Value} {b : Nat} (hf : fn.results = #[.cell 4 30, .tmp 5]) (h2 : a.tmps.getD 4 undef = .pointer (some ⟨b, 0, none⟩)) (h3 : a.tmps.getD 5 undef = v) (c0 : W.cell? ⟨b, 0, none⟩ = some x0) (c1 : W.cell? ⟨b, 1, none⟩ = some x1) (c2 : W.cell? ⟨b, 2, none⟩ = some x2) (c3 : W.cell? ⟨b, 3, none⟩ = some x3) : (results fn a.tmps).run Try.prog W = .ok (.tuple #[.agg #[x0, x1, x2, x3], v]) W := by
  have hu := Try.underlying30
  have hu0 := Try.underlying28
  have hu1 := Try.underlying9
  have hu2 := Try.underlying26
  rw [Go.results_cell_tmp hf, h2, h3]
  simp [asAddr, go_sem, c0, c1, c2, c3]
theorem inN_take {N : List ByteArray} {s x : ByteArray} {q : Nat} (h0 : inN (N.take q) s = false) (hx : N[q]? = some x) : inN (N.take (q + 1)) s = (x.data.toList == s.data.toList) := by
  unfold inN at h0 ⊢
  rw [List.take_add_one, hx, List.any_append, h0]
  simp
theorem fst_here {N : List ByteArray} {s : ByteArray} {q : Nat} (h0 : inN (N.take q) s = false) (hx : N[q]? = some s) : inN N s = true ∧ fstIx N s = q := by
  have hin : inN N s = true := by
    unfold inN
    rw [List.any_eq_true]
    exact ⟨s, List.mem_of_getElem? hx, beq_self_eq_true _⟩
  refine ⟨hin, ?_⟩
  have h1 := fst_at hin
  have hl := fst_lt hin
  have hql : q < N.length := (List.getElem?_eq_some_iff.1 hx).1
  unfold fstIx at h1 hl ⊢
  rw [if_pos hin] at h1 hl ⊢
  rcases Nat.lt_trichotomy (N.findIdx fun t => t.data.toList == s.data.toList) q with h | h | h
  · exfalso
    unfold inN at h0
    rw [List.any_eq_false] at h0
    have h2 : (N.take q)[N.findIdx fun t => t.data.toList == s.data.toList]? = some s := by rw [List.getElem?_take_of_lt h]; exact h1
    exact h0 _ (List.mem_of_getElem? h2) (beq_self_eq_true _)
  · exact h
  · exfalso
    have h2 := List.not_of_lt_findIdx h
    rw [(List.getElem?_eq_some_iff.1 hx).2] at h2
    simp at h2
set_option maxRecDepth 100000 in
set_option maxHeartbeats 8000000 in
theorem frag_any (D : DocT) (c0 c1 : Value) (s : ByteArray) (w : World) (B : Nat) (hB : B ≤ w.heap.size) (hD : DocAt w B D c0 c1) (hZ : szDoc D ≤ 1099511627776) :
    Calls Try.prog 9 #[.agg #[c0, c1], .string s] w fun e w' => ∃ nm on Ad nd kd As ns ks, e = .returned (.tuple #[.agg #[.string nm, .string on, .slice Ad nd kd, .slice As ns ks], .bool (inN (namesF D) s)]) ∧ (∀ x, inN (namesF D) s = true → D.frags[fstIx (namesF D) s]? = some x → ns = x.sels.len ∧ ns ≤ ks ∧ ∀ W', w'.heap.size ≤ W'.heap.size → (∀ b, (b < B ∨ w.heap.size ≤ b) → b < w'.heap.size → W'.heap[b]? = w'.heap[b]?) → SelsAt W' W'.heap.size x.sels As) ∧ Below w.heap.size w w' := by
  obtain ⟨Ao, ko, Af, kf, rfl, rfl, _⟩ := doc_cells hD.1
  have hfl := frags_sz D
  have HB0 := Lib.hid hB
  have HDF := Lib.hid (fun (q : Nat) (x : FragT) (wx : World) (h : Below w.heap.size w wx) (hx : D.frags[q]? = some x) => hD.frag (h.mono hB) hx)
  have HL := Lib.hid (fun (x : FragT) (h : x ∈ D.frags) => frag_lens h)
  clear hD hB
  obtain ⟨n, hn⟩ : ∃ n, w.heap.size = n := ⟨_, rfl⟩
  have HN := Lib.hid hn
  go_enter Try.func9, Try.ntmps9
  go_upto_region 1 with fail
  have B1 : Hid (Below n w ((w.alloc (.cells #[.slice Ao D.ops.length ko, .slice Af D.frags.length kf] 25)).alloc (.cells #[.string ⟨#[]⟩, .string ⟨#[]⟩, .slice none 0 0, .slice none 0 0] 30))) := Lib.hid (by rw [← hn]; exact ((Below.refl _ _).alloc (Nat.le_refl _) _).alloc (by simp) _)
  have R1 : Hid (((w.alloc (.cells #[.slice Ao D.ops.length ko, .slice Af D.frags.length kf] 25)).alloc (.cells #[.string ⟨#[]⟩, .string ⟨#[]⟩, .slice none 0 0, .slice none 0 0] 30)).heap[n + 1]? = some (.cells #[.string ⟨#[]⟩, .string ⟨#[]⟩, .slice none 0 0, .slice none 0 0] 30 (0, 0))) := Lib.hid (by
    have h := heap_alloc_new (w.alloc (.cells #[.slice Ao D.ops.length ko, .slice Af D.frags.length kf] 25)) (.cells #[.string ⟨#[]⟩, .string ⟨#[]⟩, .slice none 0 0, .slice none 0 0] 30)
    rw [World.size_alloc, hn] at h
    exact h)
  have D1 : Hid (((w.alloc (.cells #[.slice Ao D.ops.length ko, .slice Af D.frags.length kf] 25)).alloc (.cells #[.string ⟨#[]⟩, .string ⟨#[]⟩, .slice none 0 0, .slice none 0 0] 30)).heap[n]? = some (.cells #[.slice Ao D.ops.length ko, .slice Af D.frags.length kf] 25 (0, 0))) := Lib.hid (by
    rw [Below.heap_alloc _ _ _ (by simp; omega), ← hn]
    exact heap_alloc_new _ _)
  generalize (w.alloc (.cells #[.slice Ao D.ops.length ko, .slice Af D.frags.length kf] 25)).alloc (.cells #[.string ⟨#[]⟩, .string ⟨#[]⟩, .slice none 0 0, .slice none 0 0] 30) = w1 at B1 R1 D1 ⊢
  clear hn
  obtain ⟨⟨y0, y1⟩, _⟩ := gcells2 D1.out
  go_wp2_with fail
  clear y0 y1
  go_loopg [11] D.frags.length (fun g t wx => ∃ q : Nat, q + g = D.frags.length ∧ t = .int .i64 q ∧ Asd ((Below n w wx ∧ wx.heap[n + 1]? = some (.cells #[.string ⟨#[]⟩, .string ⟨#[]⟩, .slice none 0 0, .slice none 0 0] 30 (0, 0))) ∧ inN ((namesF D).take q) s = false))
  case atStart => exact ⟨0, by omega, rfl, Asd.intro ⟨⟨B1.out, R1.out⟩, rfl⟩⟩
  case round =>
    obtain ⟨q, hq, rfl, HX⟩ := hrel
    have BL := Lib.hid HX.out.1.1
    have RL := Lib.hid HX.out.1.2
    have IL := Lib.hid HX.out.2
    clear HX
    cases gk with
    | zero =>
      have hn0 : inN (namesF D) s = false := by
        have h := IL.out
        rw [List.take_of_length_le (by unfold namesF; rw [List.length_map]; omega)] at h
        exact h
      obtain ⟨⟨r0, r1, r2, r3⟩, v0, v1, v2, v3⟩ := gcells4 RL.out
      go_wp2_with fail
      obtain ⟨W, hW⟩ : ∃ W, ((((wr.setCell ⟨n + 1, 0, none⟩ (.string ⟨#[]⟩)).setCell ⟨n + 1, 1, none⟩ (.string ⟨#[]⟩)).setCell ⟨n + 1, 2, none⟩ (.slice none 0 0)).setCell ⟨n + 1, 3, none⟩ (.slice none 0 0)) = W := ⟨_, rfl⟩
      rw [hW]
      have hc : W.heap[n + 1]? = some (.cells #[.string ⟨#[]⟩, .string ⟨#[]⟩, .slice none 0 0, .slice none 0 0] 30 (0, 0)) := by
        have hb := RL.out
        rw [← hW]
        simp [World.setCell, Array.getElem?_modify, hb]
      have hb : Below n w W := by
        rw [← hW]
        exact (((BL.out.setCell (p := ⟨n + 1, 0, none⟩) (Nat.le_succ _) _).setCell (p := ⟨n + 1, 1, none⟩) (Nat.le_succ _) _).setCell (p := ⟨n + 1, 2, none⟩) (Nat.le_succ _) _).setCell (p := ⟨n + 1, 3, none⟩) (Nat.le_succ _) _
      obtain ⟨⟨z0, z1, z2, z3⟩, _⟩ := gcells4 hc
      refine bodyPost_ret (gres_fragb rfl rfl rfl z0 z1 z2 z3) rfl ⟨⟨#[]⟩, ⟨#[]⟩, none, 0, 0, none, 0, 0, ?_, ?_, ?_⟩
      · rw [hn0]
        rfl
      · intro x h
        rw [hn0] at h
        cases h
      · rw [HN.out]
        exact hb
    | succ g =>
      have hqn : q < D.frags.length := by omega
      have hqn' : (q : Int) < (D.frags.length : Int) := by omega
      obtain ⟨x, hx⟩ : ∃ x, D.frags[q]? = some x := ⟨_, List.getElem?_eq_getElem hqn⟩
      obtain ⟨b, p, Ad, kd, As, ks, rfl, hb, ⟨f0, f1, f2, f3⟩, hsz, ⟨hdl, hdr⟩, hk, hS, hsl⟩ := HDF.out q x wr (by rw [HN.out]; exact BL.out) hx
      have hxn : (namesF D)[q]? = some x.name := by unfold namesF; rw [List.getElem?_map, hx]; rfl
      have HXX := Lib.hid hx
      have HXN := Lib.hid hxn
      have HLX := Lib.hid (HL.out x (List.mem_of_getElem? hx))
      have HDR := Lib.hid hdr
      have HSS := Lib.hid hS
      have HW : Hid (n + 1 < wr.heap.size) := Lib.hid (Array.getElem?_eq_some_iff.1 RL.out).1
      clear hx hdr hS hdl hxn
      by_cases he : x.name = s
      rotate_left
      · have e1 : (x.name.toList == s.toList) = false := by
          refine beq_eq_false_iff_ne.2 (fun h => he ?_)
          rw [Lib.toList_data, Lib.toList_data] at h
          exact ByteArray.ext (Array.toList_inj.1 h)
        have e2 : inN ((namesF D).take (q + 1)) s = false := by
          rw [inN_take IL.out HXN.out]
          exact beq_eq_false_iff_ne.2 (fun e => he (ByteArray.ext (Array.toList_inj.1 e)))
        have HE := Lib.hid e2
        clear e2
        go_wp2_with fail
        go_roundg g
        case measure => omega
        case rel =>
          refine ⟨q + 1, by omega, by go_num, Asd.intro ⟨⟨BL.out.alloc (by have := HW.out; omega) _, (Below.heap_alloc _ _ _ HW.out).trans RL.out⟩, HE.out⟩⟩
      · have e1 : (x.name.toList == s.toList) = true := by rw [he]; exact beq_self_eq_true _
        have HE := Lib.hid he
        clear he
        go_upto_region 5 with fail
        have hal := gnew wr (.cells #[.string x.name, .string x.on, .slice Ad x.dirs.length kd, .slice As x.sels.len ks] 30)
        have hlw : B ≤ wr.heap.size := by have h1 := HB0.out; have h2 := HN.out; have h3 := HW.out; omega
        have FA : Hid ((wr.alloc (.cells #[.string x.name, .string x.on, .slice Ad x.dirs.length kd, .slice As x.sels.len ks] 30)).heap[wr.heap.size]? = some (.cells #[.string x.name, .string x.on, .slice Ad x.dirs.length kd, .slice As x.sels.len ks] 30 (0, 0))) := Lib.hid (heap_alloc_new _ _)
        have RA := Lib.hid ((hal.block _ HW.out).trans RL.out)
        have BA := Lib.hid (BL.out.trans (hal.mono (by have := HW.out; omega)))
        have OW := Lib.hid (own_any x.name x.on x.dirs Ad kd x.sels As ks (wr.alloc (.cells #[.string x.name, .string x.on, .slice Ad x.dirs.length kd, .slice As x.sels.len ks] 30)) B (by have := hal.size; omega) (RowT.below (hal.mono hlw) HDR.out) (by have := HLX.out.1; omega) (fun d hd => by have := HLX.out.2.1 d hd; omega) (HSS.out.below (hal.mono hlw)) (by have := HLX.out.2.2; omega))
        have HW1 : Hid (n + 1 < wr.heap.size ∧ wr.heap.size < (wr.alloc (.cells #[.string x.name, .string x.on, .slice Ad x.dirs.length kd, .slice As x.sels.len ks] 30)).heap.size) := Lib.hid ⟨HW.out, by rw [World.size_alloc]; omega⟩
        generalize wr.alloc (.cells #[.string x.name, .string x.on, .slice Ad x.dirs.length kd, .slice As x.sels.len ks] 30) = w4 at FA RA BA OW HW1 ⊢
        generalize wr.heap.size = gx at FA HW1 ⊢
        clear hal hlw HW HSS HDR BL RL f0 f1 f2 f3
        obtain ⟨⟨t0, t1, t2, t3⟩, _⟩ := gcells4 FA.out
        go_wp2_with fail
        refine OW.out.mono ?_
        rintro e w5 ⟨Vd, A', c', ys, rfl, ⟨A9, n9, c9, rfl⟩, ho, hf, hb⟩
        have R5 := Lib.hid ((hb.block _ (Nat.lt_trans HW1.out.1 HW1.out.2)).trans RA.out)
        have B5 := Lib.hid (BA.out.trans (hb.mono (by have := HW1.out; omega)))
        have HO5 := Lib.hid ho
        have HF5 := Lib.hid hf
        have HBN : Hid (B ≤ n) := Lib.hid (by have h1 := HB0.out; have h2 := HN.out; omega)
        have HS5 : Hid (B ≤ w5.heap.size) := Lib.hid (by have h1 := HBN.out; have h2 := hb.size; have h3 := HW1.out; omega)
        clear hb ho hf t0 t1 t2 t3 OW
        obtain ⟨_, v0, v1, v2, v3⟩ := gcells4 R5.out
        obtain ⟨⟨r0, r1, r2, r3⟩, _⟩ := gcells4 R5.out
        go_wp2_with fail
        have hx6 := HXN.out
        rw [HE.out] at hx6
        obtain ⟨hin, hix⟩ := fst_here IL.out hx6
        obtain ⟨W, hW⟩ : ∃ W, ((((w5.setCell ⟨n + 1, 0, none⟩ (.string x.name)).setCell ⟨n + 1, 1, none⟩ (.string x.on)).setCell ⟨n + 1, 2, none⟩ (.slice A9 n9 c9)).setCell ⟨n + 1, 3, none⟩ (.slice A' x.sels.len c')) = W := ⟨_, rfl⟩
        rw [hW]
        have hc : W.heap[n + 1]? = some (.cells #[.string x.name, .string x.on, .slice A9 n9 c9, .slice A' x.sels.len c'] 30 (0, 0)) := by
          have hb := R5.out
          rw [← hW]
          simp [World.setCell, Array.getElem?_modify, hb]
        have hb : Below n w W := by
          rw [← hW]
          exact (((B5.out.setCell (p := ⟨n + 1, 0, none⟩) (Nat.le_succ _) _).setCell (p := ⟨n + 1, 1, none⟩) (Nat.le_succ _) _).setCell (p := ⟨n + 1, 2, none⟩) (Nat.le_succ _) _).setCell (p := ⟨n + 1, 3, none⟩) (Nat.le_succ _) _
        have hk : ∀ b, b ≠ n + 1 → W.heap[b]? = w5.heap[b]? := fun b hb => by
          rw [← hW]
          exact (Below.heap_setCell _ _ _ _ hb).trans ((Below.heap_setCell _ _ _ _ hb).trans ((Below.heap_setCell _ _ _ _ hb).trans (Below.heap_setCell _ _ _ _ hb)))
        have hsz : W.heap.size = w5.heap.size := by rw [← hW]; simp [World.setCell]
        have hO := gown_one HO5.out (fun b e => hk b (by have := (HO5.out.lt b e).1; have := HW1.out; omega))
        have hF := HF5.out.keep (Nat.le_refl _) (fun b hb => hk b (by have := HBN.out; omega))
        have hS2 : ∀ W', W.heap.size ≤ W'.heap.size → (∀ b, (b < B ∨ w.heap.size ≤ b) → b < W.heap.size → W'.heap[b]? = W.heap[b]?) → x.sels.len ≤ c' ∧ SelsAt W' W'.heap.size x.sels A' := fun W' hs hk2 => by
          have hO2 := gown_one hO (fun b e => hk2 b (.inr (by have := (HO5.out.lt b e).1; have := HW1.out; have := HN.out; omega)) (hO.lt b e).2)
          have hF2 := hF.keep (Nat.le_refl _) (fun b hb => hk2 b (.inl hb) (by have := HS5.out; omega))
          obtain ⟨A2, c2, e2, hc2, hs2⟩ := own_sels hO2 hF2 (by have := HS5.out; omega)
          rw [toSL_ls] at e2 hc2 hs2
          injection e2 with e2 _ e3
          subst e2 e3
          exact ⟨hc2, hs2⟩
        obtain ⟨⟨z0, z1, z2, z3⟩, _⟩ := gcells4 hc
        refine bodyPost_ret (gres_fragb rfl rfl rfl z0 z1 z2 z3) rfl ⟨x.name, x.on, A9, n9, c9, A', x.sels.len, c', ?_, ?_, ?_⟩
        · rw [hin]
          rfl
        · intro y _ hy
          rw [hix, HXX.out] at hy
          obtain rfl := Option.some.inj hy
          exact ⟨rfl, (hS2 W (Nat.le_refl _) (fun _ _ _ => rfl)).1, fun W' h1 h2 => (hS2 W' h1 h2).2⟩
        · rw [HN.out]
          exact hb
end Go.Proofs.Ytohkimibphleaaa
