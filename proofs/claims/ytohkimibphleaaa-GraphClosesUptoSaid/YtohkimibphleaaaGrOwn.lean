/- graph.own: a fragment with rows of its own. (gen_grown.py wrote it.) -/
import Derived.Test.YtohkimibphleaaaGrClone
namespace Go.Proofs.Ytohkimibphleaaa
open Go.RowKit

theorem gdrewO (W : World) : Below W.heap.size W W.drew := Below.drew (Below.refl _ _)
theorem mems_cells {w : World} {B : Nat} : ∀ {m : VM} {A : Option Addr}, RowT w (fun b => b < B) (encM m) A → ∃ ys, ys.length = m.len * 6 ∧ CellsA w A ys
  | .nil, A, _ => ⟨[], by rw [VM.len]; rfl, fun j u hj => by simp at hj, fun u hu => by cases hu⟩
  | .cons nm v t, A, h => by
    rw [encM] at h
    unfold RowT at h
    obtain ⟨b, o, cs, rfl, hb, hc, hT, hR⟩ := h
    simp only [TS, TP] at hT
    obtain ⟨_, zs, rfl, ⟨rfl, _⟩, hV⟩ := hT
    obtain ⟨d0, d1, d2, d3, d4, rfl, hv⟩ := ts_vp _ _ hV
    have hv := VP.at (fun _ h => h) _ _ _ _ _ _ hv
    have hone : ∀ u ∈ [Value.string nm, d0, d1, d2, d3, d4], u.oneCell' = true := by
      cases v
      unfold VAt at hv
      obtain ⟨rfl, rfl, rfl, _, ⟨A3, k3, rfl, _⟩, A4, k4, rfl, _⟩ := hv
      intro u hu
      simp only [List.mem_cons, List.not_mem_nil, or_false] at hu
      rcases hu with rfl | rfl | rfl | rfl | rfl | rfl <;> rfl
    rw [show (TrS.cons (.one (.string nm)) (encV v)).len = 6 by rw [TrS.len, encV_len]] at hR
    obtain ⟨ys, h1, h2, h3⟩ := mems_cells hR
    refine ⟨[Value.string nm, d0, d1, d2, d3, d4] ++ ys, by rw [List.length_append, h1, VM.len]; show 6 + _ = _; omega, fun j u hj => ⟨b, o, rfl, ?_⟩, fun u hu => (List.mem_append.1 hu).elim (hone u) (h3 u)⟩
    rcases Nat.lt_or_ge j 6 with hj6 | hj6
    · rw [List.getElem?_append_left (by exact hj6)] at hj
      exact hc j u hj
    · rw [List.getElem?_append_right (by exact hj6)] at hj
      obtain ⟨b', o', e, hcc⟩ := h2 _ u hj
      injection e with e
      injection e with e1 e2
      subst e1 e2
      have e6 : o + 6 + (j - 6) = o + j := by omega
      rw [← e6]
      exact hcc
theorem dirs_cells {w : World} {B : Nat} : ∀ {l : List DirT} {A : Option Addr}, RowT w (fun b => b < B) (rowOf encD l) A → ∃ xs, xs.length = l.length * 2 ∧ CellsA w A xs ∧ ∀ (q : Nat) d, l[q]? = some d → ∃ Aa ka, xs[q * 2]? = some (.string d.1) ∧ xs[q * 2 + 1]? = some (.slice Aa d.2.len ka) ∧ RowT w (fun b => b < B) (encM d.2) Aa
  | [], A, _ => ⟨[], rfl, ⟨fun j u hj => by simp at hj, fun u hu => by cases hu⟩, fun q d hq => by simp at hq⟩
  | d :: t, A, h => by
    rw [rowOf] at h
    unfold RowT at h
    obtain ⟨b, o, cs, rfl, hb, hc, hT, hR⟩ := h
    unfold encD at hT
    simp only [TS, TP] at hT
    obtain ⟨_, zs, rfl, ⟨rfl, _⟩, _, zs2, rfl, ⟨Aa, ka, rfl, _, hRa⟩, rfl⟩ := hT
    rw [encM_len] at hc
    rw [show (encD d).len = 2 from rfl] at hR
    obtain ⟨ys, h1, ⟨h2, h3⟩, h4⟩ := dirs_cells hR
    refine ⟨[Value.string d.1, .slice Aa d.2.len ka] ++ ys, by rw [List.length_append, h1, List.length_cons]; show 2 + t.length * 2 = (t.length + 1) * 2; omega, ⟨fun j u hj => ⟨b, o, rfl, ?_⟩, fun u hu => ?_⟩, fun q x hq => ?_⟩
    · rcases Nat.lt_or_ge j 2 with hj6 | hj6
      · rw [List.getElem?_append_left (by exact hj6)] at hj
        exact hc j u hj
      · rw [List.getElem?_append_right (by exact hj6)] at hj
        obtain ⟨b', o', e, hcc⟩ := h2 _ u hj
        injection e with e
        injection e with e1 e2
        subst e1 e2
        have e6 : o + 2 + (j - 2) = o + j := by omega
        rw [← e6]
        exact hcc
    · rcases List.mem_append.1 hu with hu | hu
      · simp only [List.mem_cons, List.not_mem_nil, or_false] at hu
        rcases hu with rfl | rfl <;> rfl
      · exact h3 u hu
    · cases q with
      | zero =>
        obtain rfl : d = x := by simpa using hq
        exact ⟨Aa, ka, rfl, rfl, hRa⟩
      | succ q =>
        rw [List.getElem?_cons_succ] at hq
        obtain ⟨A', k', g1, g2, g3⟩ := h4 q x hq
        exact ⟨A', k', by rw [List.getElem?_append_right (by show 2 ≤ _; omega)]; rw [show (q + 1) * 2 - [Value.string d.1, Value.slice Aa d.2.len ka].length = q * 2 from (by show (q + 1) * 2 - 2 = _; omega)]; exact g1, by rw [List.getElem?_append_right (by show 2 ≤ _; omega)]; rw [show (q + 1) * 2 + 1 - [Value.string d.1, Value.slice Aa d.2.len ka].length = q * 2 + 1 from (by show (q + 1) * 2 + 1 - 2 = _; omega)]; exact g2, g3⟩
theorem CellsA.low {w W : World} {n : Nat} {A : Option Addr} {zs : List Value} (hc : CellsA w A zs) (hb : Below n w W) (hn : w.heap.size ≤ n) : CellsA W A zs := ⟨fun j u hj => by
  obtain ⟨b, o, e, hcc⟩ := hc.1 j u hj
  exact ⟨b, o, e, (hb.cell (p := ⟨b, o + j, none⟩) (by have h := World.block_lt_of_cell? w _ hcc; have h : b < w.heap.size := h; show b < n; omega)).trans hcc⟩, hc.2⟩
/-- The clone of the directives, those from q on not yet touched. -/
def DirsO (w : World) (base B : Nat) (V : Value) (l : List DirT) (q : Nat) : Prop := ∃ xs, w.ownsRow base 79 2 V l.length xs ∧ ∀ (j : Nat) d, q ≤ j → l[j]? = some d → ∃ Aa ka, xs[j * 2]? = some (.string d.1) ∧ xs[j * 2 + 1]? = some (.slice Aa d.2.len ka) ∧ RowT w (fun b => b < B) (encM d.2) Aa
theorem DirsO.next {w w' : World} {base B q : Nat} {V : Value} {l : List DirT} (h : DirsO w base B V l q) (hB : B ≤ w.heap.size) (hb : Below w.heap.size w w') : DirsO w' base B V l q := by
  obtain ⟨xs, h1, h2⟩ := h
  refine ⟨xs, own_low h1 hb, fun j d hj hd => ?_⟩
  obtain ⟨Aa, ka, g1, g2, g3⟩ := h2 j d hj hd
  exact ⟨Aa, ka, g1, g2, RowT.below (hb.mono hB) g3⟩
theorem DirsO.set {w : World} {base B q g cap : Nat} {v : Value} {l : List DirT} (h : DirsO w base B (.slice (some ⟨g, 0, none⟩) l.length cap) l q) (hB : B ≤ g) : DirsO (w.setCell ⟨g, q * 2 + 1, none⟩ v) base B (.slice (some ⟨g, 0, none⟩) l.length cap) l (q + 1) := by
  obtain ⟨xs, h1, h2⟩ := h
  refine ⟨xs.set (q * 2 + 1) v, (h1.stored _ _).1, fun j d hj hd => ?_⟩
  obtain ⟨Aa, ka, g1, g2, g3⟩ := h2 j d (by omega) hd
  exact ⟨Aa, ka, by rw [List.getElem?_set_ne (by omega)]; exact g1, by rw [List.getElem?_set_ne (by omega)]; exact g2, RowT.keep (fun b hb => ⟨hb, Below.heap_setCell _ _ _ _ (by show b ≠ g; omega)⟩) _ _ g3⟩
/-- What the walk keeps: the fragment's box at n, the result's at n + 1. -/
structure OwnI (w : World) (n : Nat) (nm on : ByteArray) (Vd Vs : Value) (W : World) : Prop where
  low : Below n w W
  box : W.heap[n]? = some (.cells #[.string nm, .string on, Vd, Vs] 30 (0, 0))
  res : W.heap[n + 1]? = some (.cells #[.string ⟨#[]⟩, .string ⟨#[]⟩, .slice none 0 0, .slice none 0 0] 30 (0, 0))
theorem OwnI.next {w W W' : World} {n : Nat} {nm on : ByteArray} {Vd Vs : Value} (h : OwnI w n nm on Vd Vs W) (hn : w.heap.size = n) (hb : Below W.heap.size W W') : OwnI w n nm on Vd Vs W' :=
  ⟨h.low.trans (hb.mono (by have := h.low.size; omega)), (hb.block _ (Array.getElem?_eq_some_iff.1 h.box).1).trans h.box, (hb.block _ (Array.getElem?_eq_some_iff.1 h.res).1).trans h.res⟩
theorem gres_frag {fn : Func} {a : Act} {W : World} {x0 x1 x2 x3 : Value} {b : Nat} (hf : fn.results = #[.cell 2 30]) (h2 : a.tmps.getD 2 undef = .pointer (some ⟨b, 0, none⟩)) (c0 : W.cell? ⟨b, 0, none⟩ = some x0) (c1 : W.cell? ⟨b, 1, none⟩ = some x1) (c2 : W.cell? ⟨b, 2, none⟩ = some x2) (c3 : W.cell? ⟨b, 3, none⟩ = some x3) : (results fn a.tmps).run Try.prog W = .ok (.agg #[x0, x1, x2, x3]) W := by
  have h2' : a.tmps[2]?.getD undef = .pointer (some ⟨b, 0, none⟩) := by rw [← h2]; simp
  have hu := Try.underlying30
  have hu0 := Try.underlying28
  have hu1 := Try.underlying9
  have hu2 := Try.underlying26
  simp [results, hf, h2', asAddr, go_sem, c0, c1, c2, c3]
set_option maxRecDepth 100000 in
set_option maxHeartbeats 8000000 in
theorem own_any (nm on : ByteArray) (dirs : List DirT) (Ad : Option Addr) (kd : Nat) (sels : SelL) (As : Option Addr) (ks : Nat) (w : World) (B : Nat) (hB : B ≤ w.heap.size) (hd : RowT w (fun b => b < B) (rowOf encD dirs) Ad) (hdl : dirs.length ≤ 1099511627776) (hml : ∀ d, d ∈ dirs → d.2.len ≤ 1099511627776) (hS : SelsAt w B sels As) (hsl : sels.len ≤ 1099511627776) :
    Calls Try.prog 24 #[.agg #[.string nm, .string on, .slice Ad dirs.length kd, .slice As sels.len ks]] w fun e w' => ∃ Vd A' c' ys, e = .returned (.agg #[.string nm, .string on, Vd, .slice A' sels.len c']) ∧ (∃ A n c, Vd = .slice A n c) ∧ w'.ownsRow w.heap.size 55 7 (.slice A' sels.len c') sels.ls.length ys ∧ FlatS w' B sels.ls ys ∧ Below w.heap.size w w' := by
  obtain ⟨n, hn⟩ : ∃ n, w.heap.size = n := ⟨_, rfl⟩
  have HB := Lib.hid hB
  have HS := Lib.hid hS
  have HML := Lib.hid hml
  obtain ⟨xs, hxl, hxc, hxd⟩ := dirs_cells hd
  obtain ⟨ys, hys, hyn⟩ := sels_flat hS
  have HXC := Lib.hid hxc
  have HXD := Lib.hid hxd
  have HYS := Lib.hid hys
  have HYN := Lib.hid hyn
  have HN := Lib.hid hn
  clear hB hd hS hml hxc hxd hys hyn
  go_enter Try.func24, Try.ntmps24
  go_upto_region 1 with fail
  have O1 : Hid (OwnI w n nm on (.slice Ad dirs.length kd) (.slice As sels.len ks) ((w.alloc (.cells #[.string nm, .string on, .slice Ad dirs.length kd, .slice As sels.len ks] 30)).alloc (.cells #[.string ⟨#[]⟩, .string ⟨#[]⟩, .slice none 0 0, .slice none 0 0] 30))) := Lib.hid (by
    refine ⟨by rw [← hn]; exact (gnew _ _).alloc (by simp) _, by rw [Below.heap_alloc _ _ _ (by simp; omega), ← hn]; exact heap_alloc_new _ _, ?_⟩
    have h := heap_alloc_new (w.alloc (.cells #[.string nm, .string on, .slice Ad dirs.length kd, .slice As sels.len ks] 30)) (.cells #[.string ⟨#[]⟩, .string ⟨#[]⟩, .slice none 0 0, .slice none 0 0] 30)
    rw [World.size_alloc, hn] at h
    exact h)
  generalize (w.alloc (.cells #[.string nm, .string on, .slice Ad dirs.length kd, .slice As sels.len ks] 30)).alloc (.cells #[.string ⟨#[]⟩, .string ⟨#[]⟩, .slice none 0 0, .slice none 0 0] 30) = w1 at O1 ⊢
  clear hn
  obtain ⟨⟨y0, y1, y2, y3⟩, _⟩ := gcells4 O1.out.box
  have hw1 : n + 1 < w1.heap.size := (Array.getElem?_eq_some_iff.1 O1.out.res).1
  have hBw : B ≤ w1.heap.size := by have h1 := HB.out; have h2 := HN.out; omega
  have CD := Lib.hid (gclone_dir Ad dirs.length kd xs w1 (HXC.out.low O1.out.low (by have := HN.out; omega)) hxl hdl)
  go_wp2_with fail
  refine CD.out.mono ?_
  rintro e w2 ⟨Vd, rfl, hO, hb⟩
  obtain ⟨Ad', kd', rfl⟩ := shape_own hO
  have O2 := Lib.hid (O1.out.next HN.out hb)
  have D2 : Hid (DirsO w2 w1.heap.size B (.slice Ad' dirs.length kd') dirs 0) := Lib.hid ⟨xs, hO, fun j d _ hd => by
    obtain ⟨Aa, ka, g1, g2, g3⟩ := HXD.out j d hd
    exact ⟨Aa, ka, g1, g2, RowT.below (O2.out.low.mono (by have h1 := HB.out; have h2 := HN.out; omega)) g3⟩⟩
  clear hO hb CD O1 y0 y1 y2 y3
  obtain ⟨_, u0, u1, u2, u3⟩ := gcells4 O2.out.box
  have hlow2 := O2.out.low
  have hk3 : ∀ b, b ≠ n → (w2.setCell ⟨n, 2, none⟩ (.slice Ad' dirs.length kd')).heap[b]? = w2.heap[b]? := fun b hb => Below.heap_setCell _ _ _ _ hb
  have O3 : Hid (OwnI w n nm on (.slice Ad' dirs.length kd') (.slice As sels.len ks) (w2.setCell ⟨n, 2, none⟩ (.slice Ad' dirs.length kd'))) := Lib.hid (by
    refine ⟨hlow2.setCell (p := ⟨n, 2, none⟩) (Nat.le_refl _) _, ?_, (hk3 _ (by omega)).trans O2.out.res⟩
    have hb := O2.out.box
    simp [World.setCell, Array.getElem?_modify, hb])
  have D3 : Hid (DirsO (w2.setCell ⟨n, 2, none⟩ (.slice Ad' dirs.length kd')) w1.heap.size B (.slice Ad' dirs.length kd') dirs 0) := Lib.hid (by
    obtain ⟨xs, h1, h2⟩ := D2.out
    refine ⟨xs, gown_one h1 (fun b e => hk3 b (by have := (h1.lt b e).1; omega)), fun j d hj hd => ?_⟩
    obtain ⟨Aa, ka, g1, g2, g3⟩ := h2 j d hj hd
    exact ⟨Aa, ka, g1, g2, RowT.keep (fun b hb => ⟨hb, hk3 b (by have h1 := HB.out; have h2 := HN.out; omega)⟩) _ _ g3⟩)
  go_upto_region 2 with fail
  generalize w2.setCell ⟨n, 2, none⟩ (.slice Ad' dirs.length kd') = w3 at O3 D3 ⊢
  clear hk3 hlow2 O2 D2 u0 u1 u2 u3
  obtain ⟨⟨y0, y1, y2, y3⟩, _⟩ := gcells4 O3.out.box
  go_wp2_with fail
  clear y0 y1 y2 y3
  go_loopg [12] dirs.length (fun g t wx => ∃ q : Nat, q + g = dirs.length ∧ t = .int .i64 q ∧ Asd (OwnI w n nm on (.slice Ad' dirs.length kd') (.slice As sels.len ks) wx ∧ DirsO wx w1.heap.size B (.slice Ad' dirs.length kd') dirs q))
  case atStart => exact ⟨0, by omega, rfl, Asd.intro ⟨O3.out, D3.out⟩⟩
  case round =>
    obtain ⟨q, hq, rfl, HX⟩ := hrel
    have OL := Lib.hid HX.out.1
    have DL := Lib.hid HX.out.2
    clear HX O3 D3
    have hwr : n + 1 < wr.heap.size := (Array.getElem?_eq_some_iff.1 OL.out.res).1
    obtain ⟨⟨y0, y1, y2, y3⟩, _⟩ := gcells4 OL.out.box
    cases gk with
    | zero =>
      have CS := Lib.hid (gclone_sel As sels.len ks ys wr ⟨fun j u hj => by
        obtain ⟨b, o, e, hcc⟩ := HYN.out j u hj
        exact ⟨b, o, e, (OL.out.low.cell (p := ⟨b, o + j, none⟩) (by have h := World.block_lt_of_cell? w _ hcc; have h : b < w.heap.size := h; have := HN.out; show b < n; omega)).trans hcc⟩, HYS.out.one⟩ (by rw [HYS.out.len, SelL.ls_len]) hsl)
      go_wp2_with fail
      refine CS.out.mono ?_
      rintro e w5 ⟨Vs, rfl, hO, hb⟩
      have O5 := Lib.hid (OL.out.next HN.out hb)
      have hfl : FlatS w5 B sels.ls ys := HYS.out.keep (Nat.le_refl _) (fun b hb' => O5.out.low.block b (by have h1 := HB.out; have h2 := HN.out; omega))
      obtain ⟨A', c', rfl⟩ := shape_own hO
      have HO5 := Lib.hid hO
      have HF5 := Lib.hid hfl
      obtain ⟨_, u0, u1, u2, u3⟩ := gcells4 O5.out.box
      obtain ⟨_, v0, v1, v2, v3⟩ := gcells4 O5.out.res
      have HOG : Hid (∀ b, (Value.slice A' sels.len c').ownBlock = some b → n + 1 < b) := Lib.hid (fun b e => by have := (hO.lt b e).1; omega)
      have HBN : Hid (B ≤ n ∧ n + 1 < w5.heap.size) := Lib.hid ⟨by have h1 := HB.out; have h2 := HN.out; omega, (Array.getElem?_eq_some_iff.1 O5.out.res).1⟩
      clear hO hb CS hfl y0 y1 y2 y3
      obtain ⟨⟨y0, y1, y2, y3⟩, _⟩ := gcells4 O5.out.box
      go_wp2_with fail
      obtain ⟨W6, h6⟩ : ∃ W, (((((w5.setCell ⟨n, 3, none⟩ (.slice A' sels.len c')).setCell ⟨n + 1, 0, none⟩ (.string nm)).setCell ⟨n + 1, 1, none⟩ (.string on)).setCell ⟨n + 1, 2, none⟩ (.slice Ad' dirs.length kd')).setCell ⟨n + 1, 3, none⟩ (.slice A' sels.len c')) = W := ⟨_, rfl⟩
      rw [h6]
      have hk6 : ∀ b, b ≠ n → b ≠ n + 1 → W6.heap[b]? = w5.heap[b]? := fun b h1 h2 => by
        rw [← h6]
        exact (Below.heap_setCell _ _ _ _ h2).trans ((Below.heap_setCell _ _ _ _ h2).trans ((Below.heap_setCell _ _ _ _ h2).trans ((Below.heap_setCell _ _ _ _ h2).trans (Below.heap_setCell _ _ _ _ h1))))
      have hsz6 : W6.heap.size = w5.heap.size := by rw [← h6]; simp [World.setCell]
      have hbn := HBN.out
      have hbx6 : W6.heap[n + 1]? = some (.cells #[.string nm, .string on, .slice Ad' dirs.length kd', .slice A' sels.len c'] 30 (0, 0)) := by
        have hb := O5.out.res
        rw [← h6]
        simp [World.setCell, Array.getElem?_modify, hb]
      have hb6 : Below n w W6 := by
        rw [← h6]
        exact ((((O5.out.low.setCell (p := ⟨n, 3, none⟩) (Nat.le_refl _) _).setCell (p := ⟨n + 1, 0, none⟩) (Nat.le_succ _) _).setCell (p := ⟨n + 1, 1, none⟩) (Nat.le_succ _) _).setCell (p := ⟨n + 1, 2, none⟩) (Nat.le_succ _) _).setCell (p := ⟨n + 1, 3, none⟩) (Nat.le_succ _) _
      have hO6 : W6.ownsRow wr.heap.size 55 7 (.slice A' sels.len c') sels.ls.length ys := by
        rw [SelL.ls_len]
        exact gown_one HO5.out (fun b e => hk6 b (by have := HOG.out b e; omega) (by have := HOG.out b e; omega))
      have hF6 : FlatS W6 B sels.ls ys := HF5.out.keep (Nat.le_refl _) (fun b hb => hk6 b (by omega) (by omega))
      obtain ⟨⟨z0, z1, z2, z3⟩, _⟩ := gcells4 hbx6
      exact bodyPost_ret (gres_frag rfl rfl z0 z1 z2 z3) rfl ⟨_, _, _, ys, rfl, ⟨_, _, _, rfl⟩, gown_base hO6 (by have h1 := OL.out.low.size; exact h1), hF6, by rw [HN.out]; exact hb6⟩
    | succ g =>
      have hqn : q < dirs.length := by omega
      have hqn' : (q : Int) < (dirs.length : Int) := by omega
      obtain ⟨d, hd⟩ : ∃ d, dirs[q]? = some d := ⟨_, List.getElem?_eq_getElem hqn⟩
      obtain ⟨zs, hz1, hz2⟩ := DL.out
      obtain ⟨Aa, ka, g1, g2, g3⟩ := hz2 q d (Nat.le_refl _) hd
      obtain ⟨gd, cp, e1, hgd1, hgd2⟩ := World.ownsRow.form hz1 (by omega)
      injection e1 with e1 _ e3
      subst e1 e3
      have f0 := hz1.cells (g := gd) rfl _ _ g1
      have f1 := hz1.cells (g := gd) rfl _ _ g2
      rw [add_at, Nat.zero_add] at f0 f1
      have HG3 := Lib.hid g3
      have HF : Hid (wr.frozen? ⟨gd, q * 2 + 1, none⟩ = false) := Lib.hid (hz1.frozenAt _)
      have HGD : Hid (w1.heap.size ≤ gd ∧ gd < wr.heap.size) := Lib.hid (hz1.lt gd rfl)
      have hml := HML.out d (List.mem_of_getElem? hd)
      clear hz1 hz2 g1 g2 g3 hd hgd1 hgd2
      go_upto_region 5 with fail
      have hal : Below wr.heap.size wr (wr.alloc (.cells #[.string d.1, .slice Aa d.2.len ka] 79)) := gnew _ _
      have OA := Lib.hid (OL.out.next HN.out hal)
      have FA : Hid ((wr.alloc (.cells #[.string d.1, .slice Aa d.2.len ka] 79)).heap[wr.heap.size]? = some (.cells #[.string d.1, .slice Aa d.2.len ka] 79 (0, 0))) := Lib.hid (heap_alloc_new _ _)
      have DA := Lib.hid (DL.out.next (by have h1 := HB.out; have h2 := HN.out; omega) hal)
      have GA := Lib.hid (RowT.below (hal.mono (by have h1 := HB.out; have h2 := HN.out; omega)) HG3.out)
      have ZA := Lib.hid (And.intro ((World.frozen?_of_block (a := ⟨gd, q * 2 + 1, none⟩) (hal.block gd HGD.out.2)).trans HF.out) ((World.cell?_of_block (a := ⟨gd, q * 2 + 1, none⟩) (hal.block gd HGD.out.2)).trans f1))
      obtain ⟨g0, hg0⟩ : ∃ g, wr.heap.size = g := ⟨_, rfl⟩
      have HGS : Hid (gd < g0) := Lib.hid (by have := HGD.out.2; omega)
      have HG0 : Hid (g0 < (wr.alloc (.cells #[.string d.1, .slice Aa d.2.len ka] 79)).heap.size) := Lib.hid (by rw [World.size_alloc]; omega)
      rw [hg0] at FA ⊢
      generalize wr.alloc (.cells #[.string d.1, .slice Aa d.2.len ka] 79) = w4 at OA FA DA GA ZA HG0 ⊢
      have HD1 : Hid (w1.heap.size ≤ gd ∧ B ≤ w1.heap.size) := Lib.hid ⟨HGD.out.1, hBw⟩
      have HN1 : Hid (n + 1 < w1.heap.size) := Lib.hid hw1
      clear hal DL OL HG3 HF HGD hwr hg0 f0 f1 y0 y1 y2 y3
      refine wp_region_held_drew (S := fun w' => w'.cell? ⟨n, 2, none⟩ = some (.slice (some ⟨gd, 0, none⟩) dirs.length kd') ∧ w'.cell? ⟨g0, 1, none⟩ = some (.slice Aa d.2.len ka)) (by kernel_rfl) ⟨(gcells4 (OA.out.next HN.out (gdrewO w4)).box).1.2.2.1, (gcells2 (((gdrewO w4).block _ HG0.out).trans FA.out)).1.2⟩ (fun hHeld => ?_)
      obtain ⟨wd, hwd⟩ : ∃ W, w4.drew = W := ⟨_, rfl⟩
      rw [hwd] at hHeld ⊢
      have hdw : Below w4.heap.size w4 wd := by rw [← hwd]; exact gdrewO w4
      have OA := Lib.hid (OA.out.next HN.out hdw)
      have FA := Lib.hid ((hdw.block _ HG0.out).trans FA.out)
      have DA := Lib.hid (DA.out.next (by have h1 := HD1.out; have h2 := HG0.out; have h3 := HGS.out; omega) hdw)
      have ZA := Lib.hid (And.intro ((World.frozen?_of_block (a := ⟨gd, q * 2 + 1, none⟩) (hdw.block gd (Nat.lt_trans HGS.out HG0.out))).trans ZA.out.1) ((World.cell?_of_block (a := ⟨gd, q * 2 + 1, none⟩) (hdw.block gd (Nat.lt_trans HGS.out HG0.out))).trans ZA.out.2))
      have GA := Lib.hid (RowT.below (hdw.mono (by have h1 := HD1.out; have h2 := HG0.out; have h3 := HGS.out; omega)) GA.out)
      have HG0 : Hid (g0 < wd.heap.size) := Lib.hid (Nat.lt_of_lt_of_le HG0.out hdw.size)
      have HBD : Hid (B ≤ wd.heap.size) := Lib.hid (by have h1 := HD1.out; have h2 := HG0.out; have h3 := HGS.out; omega)
      clear hdw hwd
      obtain ⟨ys2, hys2, hyc2⟩ := mems_cells GA.out
      have CM := Lib.hid (gclone_mem Aa d.2.len ka ys2 wd hyc2 hys2 hml)
      clear hys2 hyc2
      refine wpAnyH_take (i := 0) (oi := _) (v := ?_) rfl (by kernel_rfl) (by kernel_rfl) (by kernel_rfl) (fun _ _ _ h => h) (Or.inl ⟨by rfl, ?_⟩) (by first | assumption | trivial) ?_
      rotate_left
      · (intro w hSw; (try dsimp only at hSw); go_simp; try with_reducible rfl)
      try simp only [Act.put, List.getElem_toArray, List.getElem_cons_zero, List.setIfInBounds_toArray, List.set_cons_zero, List.set_cons_succ]
      refine wpAnyH_take (i := 1) (oi := _) (v := ?_) rfl (by kernel_rfl) (by kernel_rfl) (by kernel_rfl) (fun _ _ _ h => h) (Or.inl ⟨by rfl, ?_⟩) (by first | assumption | trivial) ?_
      rotate_left
      · (intro w hSw; (try dsimp only at hSw); go_simp; try with_reducible rfl)
      try simp only [Act.put, List.getElem_toArray, List.getElem_cons_zero, List.getElem_cons_succ, List.setIfInBounds_toArray, List.set_cons_zero, List.set_cons_succ]
      refine wpAnyH_take (i := 2) (oi := _) (v := ?_) rfl (by kernel_rfl) (by kernel_rfl) (by kernel_rfl) (fun _ _ _ h => h) (Or.inl ⟨by rfl, ?_⟩) (by first | assumption | trivial) ?_
      rotate_left
      · (intro w hSw; (try dsimp only at hSw); go_simp; try with_reducible rfl)
      try simp only [Act.put, List.getElem_toArray, List.getElem_cons_zero, List.getElem_cons_succ, List.setIfInBounds_toArray, List.set_cons_zero, List.set_cons_succ]
      refine wpAnyH_take (i := 3) (oi := _) (v := ?_) rfl (by kernel_rfl) (by kernel_rfl) (by kernel_rfl) (fun _ _ _ h => h) (Or.inl ⟨by rfl, ?_⟩) (by first | assumption | trivial) ?_
      rotate_left
      · (intro w hSw; (try dsimp only at hSw); go_simp; try with_reducible rfl)
      try simp only [Act.put, List.getElem_toArray, List.getElem_cons_zero, List.getElem_cons_succ, List.setIfInBounds_toArray, List.set_cons_zero, List.set_cons_succ]
      refine wpAnyH_take (i := 4) (oi := _) (v := ?_) rfl (by kernel_rfl) (by kernel_rfl) (by kernel_rfl) (fun _ _ _ h => h) (Or.inl ⟨by rfl, ?_⟩) (by first | assumption | trivial) ?_
      rotate_left
      · (intro w hSw; (try dsimp only at hSw); go_simp; try with_reducible rfl)
      try simp only [Act.put, List.getElem_toArray, List.getElem_cons_zero, List.getElem_cons_succ, List.setIfInBounds_toArray, List.set_cons_zero, List.set_cons_succ]
      refine wpAnyH_ready (rs := [5]) (by kernel_rfl) (by simp) ?_
      refine AllReadyH.cons (o := _) rfl (fun K hK => ?_) AllReadyH.nil
      go_simp
      refine CM.out.mono ?_
      rintro e wc ⟨VR, rfl, hor, hb⟩
      obtain ⟨AR, cR, rfl⟩ := shape_own hor
      have OC := Lib.hid (OA.out.next HN.out hb)
      have FC := Lib.hid ((hb.block _ HG0.out).trans FA.out)
      have DC := Lib.hid (DA.out.next HBD.out hb)
      have ZC := Lib.hid (And.intro ((World.frozen?_of_block (a := ⟨gd, q * 2 + 1, none⟩) (hb.block gd (Nat.lt_trans HGS.out HG0.out))).trans ZA.out.1) ((World.cell?_of_block (a := ⟨gd, q * 2 + 1, none⟩) (hb.block gd (Nat.lt_trans HGS.out HG0.out))).trans ZA.out.2))
      clear hor hb
      have hx2 := (gcells4 OC.out.box).1.2.2.1
      have hz1 := (gcells2 FC.out).1.2
      go_wp2_with fail
      refine hK.out _ _ ⟨hx2, hz1⟩ (fun hHeld => ?_)
      clear hK K
      try simp only [Act.put, List.getElem_toArray, List.getElem_cons_zero, List.getElem_cons_succ, List.setIfInBounds_toArray, List.set_cons_zero, List.set_cons_succ]
      refine wpAnyH_take (i := 6) (oi := _) (v := ?_) rfl (by kernel_rfl) (by kernel_rfl) (by kernel_rfl) (fun _ _ _ h => h) (Or.inl ⟨by rfl, ?_⟩) (by first | assumption | trivial) ?_
      rotate_left
      · (intro w hSw; (try dsimp only at hSw); go_simp; try with_reducible rfl)
      try simp only [Act.put, List.getElem_toArray, List.getElem_cons_zero, List.getElem_cons_succ, List.setIfInBounds_toArray, List.set_cons_zero, List.set_cons_succ]
      refine wpAnyH_take (i := 7) (oi := _) (v := ?_) rfl (by kernel_rfl) (by kernel_rfl) (by kernel_rfl) (fun _ _ _ h => h) (Or.inl ⟨by rfl, ?_⟩) (by first | assumption | trivial) ?_
      rotate_left
      · (intro w hSw; (try dsimp only at hSw); go_simp; try with_reducible rfl)
      try simp only [Act.put, List.getElem_toArray, List.getElem_cons_zero, List.getElem_cons_succ, List.setIfInBounds_toArray, List.set_cons_zero, List.set_cons_succ]
      refine wpAnyH_ready (rs := [8]) (by kernel_rfl) (by simp) ?_
      refine AllReadyH.cons (o := _) rfl (fun K hK => ?_) AllReadyH.nil
      obtain ⟨hzc, hzd⟩ := ZC.out
      go_simp
      have hne1 := HD1.out
      have hne2 := HGS.out
      have hne3 := HN1.out
      refine hK.out _ _ ⟨(World.cell?_of_block (a := ⟨n, 2, none⟩) (Below.heap_setCell _ ⟨gd, q * 2 + 1, none⟩ _ _ (by show n ≠ gd; omega))).trans hx2, (World.cell?_of_block (a := ⟨g0, 1, none⟩) (Below.heap_setCell _ ⟨gd, q * 2 + 1, none⟩ _ _ (by show g0 ≠ gd; omega))).trans hz1⟩ (fun hHeld => ?_)
      clear hK K
      try simp only [Act.put, List.getElem_toArray, List.getElem_cons_zero, List.getElem_cons_succ, List.setIfInBounds_toArray, List.set_cons_zero, List.set_cons_succ]
      refine wpAnyH_done (by kernel_rfl) ?_ _
      go_wp2_with fail
      go_roundg g
      case measure => omega
      case rel =>
        refine ⟨q + 1, by omega, by go_num, Asd.intro ⟨⟨OC.out.low.setCell (p := ⟨gd, q * 2 + 1, none⟩) (by show n ≤ gd; omega) _, (Below.heap_setCell _ _ _ _ (by show n ≠ gd; omega)).trans OC.out.box, (Below.heap_setCell _ _ _ _ (by show n + 1 ≠ gd; omega)).trans OC.out.res⟩, DC.out.set (by omega)⟩⟩
end Go.Proofs.Ytohkimibphleaaa
