/- graph.netOf. (gen_grnet.py wrote it.) -/
import Derived.Test.YtohkimibphleaaaGrFst
import Derived.Test.YtohkimibphleaaaGrCap
namespace Go.Proofs.Ytohkimibphleaaa
open Go.RowKit

/-- A document whose slices of selections hold their length. -/
def DocAt (w : World) (B : Nat) (D : DocT) (c0 c1 : Value) : Prop := TS w (fun b => b < B) (encDoc D) [c0, c1] ∧ CapD w (fun b => b < B) D c0 c1
theorem DocAt.frag {w wx : World} {B : Nat} {D : DocT} {c0 : Value} {Af : Option Addr} {n kf : Nat} {q : Nat} {x : FragT} (h : DocAt w B D c0 (.slice Af n kf)) (hb : Below B w wx) (hx : D.frags[q]? = some x) :
    ∃ b p Ad kd As ks, Af = some ⟨b, p, none⟩ ∧ b < B ∧ (wx.cell? ⟨b, p + q * 4, none⟩ = some (.string x.name) ∧ wx.cell? ⟨b, p + q * 4 + 1, none⟩ = some (.string x.on) ∧ wx.cell? ⟨b, p + q * 4 + 2, none⟩ = some (.slice Ad x.dirs.length kd) ∧ wx.cell? ⟨b, p + q * 4 + 3, none⟩ = some (.slice As x.sels.len ks)) ∧
      (x.name.size ≤ 9223372036854775807 ∧ x.on.size ≤ 9223372036854775807) ∧ (x.dirs.length ≤ 9223372036854775807 ∧ RowT wx (fun b => b < B) (rowOf encD x.dirs) Ad) ∧ x.sels.len ≤ ks ∧ SelsAt wx B x.sels As ∧ x.sels.len ≤ 9223372036854775807 := by
  obtain ⟨Ao, ko, Af', kf', rfl, e, _, _, rf⟩ := doc_cells h.1
  injection e with e1 e2 e3
  subst e1 e2 e3
  obtain ⟨b, p, Ad, kd, As, ks, rfl, hlt, ⟨f0, f1, f2, f3⟩, hn, ⟨ld, rd⟩, ls, rs⟩ := frag_at rf hx
  obtain ⟨k1, k2⟩ := h.2.2 _ _ rfl q x.sels b p As ks (by show Option.map _ (D.frags[q]?) = _; rw [hx]; rfl) rfl f3 rs
  have hc := fun i => hb.cell (p := ⟨b, i, none⟩) hlt
  exact ⟨b, p, Ad, kd, As, ks, rfl, hlt, ⟨(hc _).trans f0, (hc _).trans f1, (hc _).trans f2, (hc _).trans f3⟩, hn, ⟨ld, RowT.below hb rd⟩, k1, SelsAt.below ⟨rs, k2⟩ hb, ls⟩
theorem DocAt.below {w w' : World} {B : Nat} {D : DocT} {c0 c1 : Value} (h : DocAt w B D c0 c1) (hb : Below B w w') : DocAt w' B D c0 c1 := by
  obtain ⟨Ao, ko, Af, kf, rfl, rfl, ⟨_, ro⟩, _, rf⟩ := doc_cells h.1
  have hk : ∀ {l : SelL} {As : Option Addr}, RowT w' (fun b => b < B) (encSL l) As → RowT w (fun b => b < B) (encSL l) As := fun hr => RowT.keep (fun b hl => ⟨hl, (hb.block b hl).symm⟩) _ _ hr
  have hcap : ∀ {l : SelL} {As : Option Addr}, CapL w (fun b => b < B) l As → CapL w' (fun b => b < B) l As := fun hc => CapL.keep (fun b hl => ⟨hl, hb.block b hl⟩) _ _ hc
  refine ⟨TS.keep (fun b hl => ⟨hl, hb.block b hl⟩) _ _ h.1, fun A k e q l b p As ks hg hA hc hR => ?_, fun A k e q l b p As ks hg hA hc hR => ?_⟩
  · obtain ⟨x, hx, _⟩ := Option.map_eq_some_iff.1 hg
    injection e with e1 e2 e3
    subst e1 e3 hA
    obtain ⟨b', p', Av, kv, Ad, kd, As', ks', e, hlt, _⟩ := op_at ro hx
    injection e with e
    injection e with e1 e2
    subst e1 e2
    obtain ⟨g1, g2⟩ := h.2.1 _ _ rfl q l b p As ks hg rfl ((hb.cell (p := ⟨b, p + q * 5 + 4, none⟩) hlt).symm.trans hc) (hk hR)
    exact ⟨g1, hcap g2⟩
  · obtain ⟨x, hx, _⟩ := Option.map_eq_some_iff.1 hg
    injection e with e1 e2 e3
    subst e1 e3 hA
    obtain ⟨b', p', Ad, kd, As', ks', e, hlt, _⟩ := frag_at rf hx
    injection e with e
    injection e with e1 e2
    subst e1 e2
    obtain ⟨g1, g2⟩ := h.2.2 _ _ rfl q l b p As ks hg rfl ((hb.cell (p := ⟨b, p + q * 4 + 3, none⟩) hlt).symm.trans hc) (hk hR)
    exact ⟨g1, hcap g2⟩
theorem spr_mem {XS : List SelT} {s : ByteArray} (h : s ∈ sprL XS) : ∃ x, x ∈ XS ∧ x.kind = 1 ∧ x.name = s := by
  have key : ∀ (XS : List SelT) (out : List ByteArray), s ∈ XS.foldl addS out → s ∈ out ∨ ∃ x, x ∈ XS ∧ x.kind = 1 ∧ x.name = s := by
    intro XS
    induction XS with
    | nil => exact fun out h => .inl h
    | cons y t ih =>
      intro out h
      rcases ih _ h with h1 | ⟨x, h1, h2⟩
      · unfold addS at h1
        split at h1
        · next hc =>
          rcases List.mem_append.1 h1 with h2 | h2
          · exact .inl h2
          · rw [Bool.and_eq_true] at hc
            exact .inr ⟨y, List.mem_cons_self .., eq_of_beq hc.1, (List.mem_singleton.1 h2).symm⟩
        · exact .inl h1
      · exact .inr ⟨x, List.mem_cons_of_mem _ h1, h2⟩
  rcases key XS [] h with h | h
  · cases h
  · exact h
theorem gpre_sz : ∀ {l : SelL} {x : SelT}, x ∈ gpreL l → x.name.size ≤ szSels l
  | .nil, _, h => by rw [gpreL] at h; cases h
  | .cons (.mk k a n g d o s) t, x, h => by
    rw [gpreL, gpreX, List.cons_append, List.mem_cons, List.mem_append] at h
    rw [szSels, szSel]
    rcases h with rfl | h | h
    · show n.size ≤ _; omega
    · have := gpre_sz h; omega
    · have := gpre_sz h; omega
theorem spr_sz {l : SelL} {s : ByteArray} (h : s ∈ sprL (gpreL l)) : s.size ≤ szSels l := by
  obtain ⟨x, h1, _, rfl⟩ := spr_mem h
  exact gpre_sz h1
theorem frag_sz {D : DocT} {x : FragT} (h : x ∈ D.frags) : szSels x.sels + x.name.size ≤ szDoc D := by
  have h1 := sum_mem (f := szFr) h
  unfold szDoc
  unfold szFr at h1
  show _ ≤ (D.ops.map szOp).sum + (D.frags.map szFr).sum
  have h2 : szSels x.sels + x.name.size ≤ szFr x := by unfold szFr; omega
  have h3 := sum_mem (f := szFr) h
  omega
theorem frags_sz (D : DocT) : D.frags.length * 2 ≤ szDoc D := by
  have := sum_len (f := szFr) (l := D.frags) (k := 2) (fun a _ => by unfold szFr; omega)
  unfold szDoc
  omega
/-- Places in a row. -/
def IntsG (W : World) (P : Nat → Prop) (A : Option Addr) (l : List Nat) : Prop := ∀ (j x : Nat), l[j]? = some x → ∃ b o, A = some ⟨b, o, none⟩ ∧ P b ∧ W.cell? ⟨b, o + j, none⟩ = some (.int .i64 x)
theorem IntsG.keep {W W' : World} {P P' : Nat → Prop} {A : Option Addr} {l : List Nat} (h : IntsG W P A l) (hP : ∀ b, P b → P' b ∧ W'.heap[b]? = W.heap[b]?) : IntsG W' P' A l := fun j x hx => by
  obtain ⟨b, o, e, hb, hc⟩ := h j x hx
  exact ⟨b, o, e, (hP b hb).1, (World.cell?_of_block (a := ⟨b, o + j, none⟩) (hP b hb).2).trans hc⟩
theorem ints_own {W : World} {lo : Nat} {V : Value} {l : List Nat} (h : W.ownsRow lo 3 1 V l.length (l.map fun (q : Nat) => Value.int .i64 q)) : ∃ A c, V = .slice A l.length c ∧ l.length ≤ c ∧ IntsG W (fun b => lo ≤ b ∧ b < W.heap.size) A l := by
  have h0 := h
  obtain ⟨_, h2⟩ := h
  rcases h2 with ⟨rfl, hl⟩ | ⟨g, cap, cur, rfl, hb, hg, hn, _⟩
  · exact ⟨none, 0, by rw [hl], by omega, fun j x hx => by have := (List.getElem?_eq_some_iff.1 hx).1; omega⟩
  · refine ⟨_, cap, rfl, hn, fun j x hx => ⟨g, 0, rfl, ⟨hb, (Array.getElem?_eq_some_iff.1 hg).1⟩, ?_⟩⟩
    have := h0.cells (g := g) rfl j (.int .i64 x) (by rw [List.getElem?_map, hx]; rfl)
    rwa [add_at] at this
/-- A row of one's own with rows of places. -/
def WaysO (W : World) (base : Nat) (V : Value) (ws : List (List Nat)) : Prop := ∃ vs, W.ownsRow base 69 1 V ws.length vs ∧ ∀ (j : Nat) l, ws[j]? = some l → ∃ A c, vs[j]? = some (.slice A l.length c) ∧ l.length ≤ c ∧ IntsG W (fun b => base ≤ b ∧ b < W.heap.size ∧ V.ownBlock ≠ some b) A l
theorem WaysO.blk {W W' : World} {base : Nat} {V : Value} {ws : List (List Nat)} (h : WaysO W base V ws) (hs : W.heap.size ≤ W'.heap.size) (hb : ∀ b, base ≤ b → b < W.heap.size → W'.heap[b]? = W.heap[b]?) : WaysO W' base V ws := by
  obtain ⟨vs, h1, h2⟩ := h
  refine ⟨vs, gown_one h1 (fun b e => hb b (h1.lt b e).1 (h1.lt b e).2), fun j l hj => ?_⟩
  obtain ⟨A, c, g1, g2, g3⟩ := h2 j l hj
  exact ⟨A, c, g1, g2, g3.keep fun b hp => ⟨⟨hp.1, Nat.lt_of_lt_of_le hp.2.1 hs, hp.2.2⟩, hb b hp.1 hp.2.1⟩⟩
theorem WaysO.next {W W' : World} {base : Nat} {V : Value} {ws : List (List Nat)} (h : WaysO W base V ws) (hb : Below W.heap.size W W') : WaysO W' base V ws := h.blk hb.size fun b _ hl => hb.block b hl
/-- One row more. -/
theorem WaysO.push {W W2 : World} {base c : Nat} {V V2 : Value} {ws : List (List Nat)} {vs : List Value} {l : List Nat} {A : Option Addr} {o : Obj} (h1 : W.ownsRow base 69 1 V ws.length vs) (h2 : ∀ (j : Nat) l, ws[j]? = some l → ∃ A c, vs[j]? = some (.slice A l.length c) ∧ l.length ≤ c ∧ IntsG W (fun b => base ≤ b ∧ b < W.heap.size ∧ V.ownBlock ≠ some b) A l)
    (hc : l.length ≤ c) (hA : IntsG W (fun b => base ≤ b ∧ b < W.heap.size ∧ V.ownBlock ≠ some b) A l) (hg : (W.alloc o).grownBy W2 V.ownBlock) (hown : W2.ownsRow base 69 1 V2 (ws.length + 1) (vs ++ [.slice A l.length c])) (hat : V.ownBlock = V2.ownBlock ∨ V2.ownBlock = some (W.alloc o).heap.size) : WaysO W2 base V2 (ws ++ [l]) := by
  have hs := hg.size
  have hal : (W.alloc o).heap.size = W.heap.size + 1 := by simp
  have hlv : vs.length = ws.length := by have := h1.1; simpa using this
  have hk : ∀ b, (base ≤ b ∧ b < W.heap.size ∧ V.ownBlock ≠ some b) → (base ≤ b ∧ b < W2.heap.size ∧ V2.ownBlock ≠ some b) ∧ W2.heap[b]? = W.heap[b]? := fun b ⟨p1, p2, p3⟩ => ⟨⟨p1, by omega, fun e => by
    rcases hat with e2 | e2
    · exact p3 (e2.trans e)
    · rw [e2] at e; injection e; omega⟩, (hg.block b (by omega) (fun e => p3 e.symm)).trans (Below.heap_alloc _ _ _ p2)⟩
  refine ⟨_, by rw [List.length_append, List.length_singleton]; exact hown, fun j l' hj => ?_⟩
  rcases Nat.lt_or_ge j ws.length with hj1 | hj1
  · rw [List.getElem?_append_left hj1] at hj
    obtain ⟨A', c', p1, p2, p3⟩ := h2 j l' hj
    exact ⟨A', c', by rw [List.getElem?_append_left (by omega)]; exact p1, p2, p3.keep hk⟩
  · obtain rfl : j = ws.length := by
      have := (List.getElem?_eq_some_iff.1 hj).1
      simp at this
      omega
    obtain rfl : l = l' := by simpa using hj
    exact ⟨A, c, by rw [List.getElem?_append_right (by omega), hlv]; simp, hc, hA.keep hk⟩
/-- Where the fragments lead to. -/
def waysF (D : DocT) : List (List Nat) := D.frags.map fun x => plcN (namesF D) (sprL (gpreL x.sels))
/-- What the walk keeps. -/
structure NetI (w : World) (n nb M : Nat) (N : List ByteArray) (V : Value) (ws : List (List Nat)) (W : World) : Prop where
  low : Below n w W
  fst : FirstM W M N
  box : W.heap[nb]? = some (.cells #[.map (some M), V] 65 (0, 0))
  res : W.heap[n + 1]? = some (.cells #[.map none, .slice none 0 0] 65 (0, 0))
  row : WaysO W (nb + 1) V ws
  lts : w.heap.size = n ∧ n + 1 < nb ∧ M < nb ∧ n ≤ M ∧ M ≠ n + 1
section
variable {w W W' : World} {n nb M : Nat} {N : List ByteArray} {V : Value} {ws : List (List Nat)}
theorem NetI.next (h : NetI w n nb M N V ws W) (hb : Below W.heap.size W W') : NetI w n nb M N V ws W' :=
  ⟨h.low.trans (hb.mono (by have := h.low.size; have := h.lts; omega)), h.fst.below hb, (hb.block _ (Array.getElem?_eq_some_iff.1 h.box).1).trans h.box, (hb.block _ (Array.getElem?_eq_some_iff.1 h.res).1).trans h.res, h.row.next hb, h.lts⟩
theorem NetI.push {W2 : World} {V2 : Value} {c : Nat} {A : Option Addr} {l : List Nat} {vs : List Value} {o : Obj} {g2 : Nat} (h : NetI w n nb M N V ws W) (h1 : W.ownsRow (nb + 1) 69 1 V ws.length vs) (h2 : ∀ (j : Nat) l, ws[j]? = some l → ∃ A c, vs[j]? = some (.slice A l.length c) ∧ l.length ≤ c ∧ IntsG W (fun b => nb + 1 ≤ b ∧ b < W.heap.size ∧ V.ownBlock ≠ some b) A l)
    (hc : l.length ≤ c) (hA : IntsG W (fun b => nb + 1 ≤ b ∧ b < W.heap.size ∧ V.ownBlock ≠ some b) A l) (hg : (W.alloc o).grownBy W2 V.ownBlock) (hown : W2.ownsRow (nb + 1) 69 1 V2 (ws.length + 1) (vs ++ [.slice A l.length c])) (hV2 : V2.ownBlock = some g2) (hat : V.ownBlock = some g2 ∨ g2 = (W.alloc o).heap.size) :
    NetI w n nb M N V2 (ws ++ [l]) (W2.setCell ⟨nb, 1, none⟩ V2) := by
  have hs := hg.size
  have hal : (W.alloc o).heap.size = W.heap.size + 1 := by simp
  have hlt := h.lts
  have hbx := (Array.getElem?_eq_some_iff.1 h.box).1
  have hk : ∀ b, b < W.heap.size → V.ownBlock ≠ some b → W2.heap[b]? = W.heap[b]? := fun b hl hne => (hg.block b (by omega) (fun e => hne e.symm)).trans (Below.heap_alloc _ _ _ hl)
  have hV : ∀ b, b ≤ nb → V.ownBlock ≠ some b := fun b hl e => by have := (h1.lt b e).1; omega
  have hks : ∀ b, b ≠ nb → (W2.setCell ⟨nb, 1, none⟩ V2).heap[b]? = W2.heap[b]? := fun b hne => Below.heap_setCell _ _ _ _ hne
  have hsz : (W2.setCell ⟨nb, 1, none⟩ V2).heap.size = W2.heap.size := by simp [World.setCell]
  have hlow := h.low.size
  refine ⟨⟨hg.os.trans h.low.os, hg.tape.trans h.low.tape, hg.output.trans h.low.output, by omega, fun b hb => (hks b (by omega)).trans ((hk b (by omega) (hV b (by omega))).trans (h.low.block b hb))⟩, h.fst.one ((hks M (by omega)).trans (hk M (by omega) (hV M (by omega)))), ?_, (hks _ (by omega)).trans ((hk _ (by omega) (hV _ (by omega))).trans h.res), ?_, hlt⟩
  · have hb := (hk nb hbx (hV nb (Nat.le_refl _))).trans h.box
    simp [World.setCell, Array.getElem?_modify, hb]
  · refine (WaysO.push h1 h2 hc hA hg hown ?_).blk (by omega) (fun b hb _ => hks b (by omega))
    rw [hV2]
    rcases hat with e | e
    · exact .inl e
    · exact .inr (by rw [e])
end
theorem gres_net {fn : Func} {a : Act} {W : World} {x0 x1 : Value} {b : Nat} (hf : fn.results = #[.cell 2 65]) (h2 : a.tmps.getD 2 undef = .pointer (some ⟨b, 0, none⟩)) (c0 : W.cell? ⟨b, 0, none⟩ = some x0) (c1 : W.cell? ⟨b, 1, none⟩ = some x1) : (results fn a.tmps).run Try.prog W = .ok (.agg #[x0, x1]) W := by
  have h2' : a.tmps[2]?.getD undef = .pointer (some ⟨b, 0, none⟩) := by rw [← h2]; simp
  have hu := Try.underlying65
  have hu0 := Try.underlying62
  have hu1 := Try.underlying63
  simp [results, hf, h2', asAddr, go_sem, c0, c1]
theorem gway_row : ∃ i z, Try.prog.info? 69 = some i ∧ i.zero = some z ∧ i.size = 1 ∧ i.bytes = 24 ∧ z.cells.size = 1 := ginfo_of (by kernel_rfl)
theorem gstep_app {P : Program} {w : World} {ops : Array Oper} {o : Oper} {a : Act} {K : Act → World → Prop} {Q : Exit → Act → World → Prop} {E : Prop} (hgd : o.guard = none) (s x : Operand) (t : TypeId)
    (ho : o.op = .call { callee := .builtin .append, args := #[s, x], argTypes := #[t, t] })
    (base : Nat) (e : TypeId) (i : TypeInfo) (z : Value) (size bytes : Nat) (ht : P.underlying t = some (.slice e)) (hi : P.info? e = some i) (hz : i.zero = some z)
    (hsize : i.size = size) (hby : i.bytes = bytes) (hzs : z.cells.size = size) (hsz : 0 < size)
    (v : Value) (n : Nat) (xs : List Value) (hs : a.eval s = v) (hown : w.ownsRow base e size v n xs)
    (ad : Addr) (m c : Nat) (news : List Value) (hx : a.eval x = .slice (some ad) m c) (hl : news.length = m * size) (hnews : ∀ (j : Nat) u, news[j]? = some u → w.cell? (ad.add j) = some u) (h1 : ∀ u ∈ news, u.oneCell' = true)
    (h63 : n + m ≤ maxLen) (hbytes : (n + m) * bytes ≤ 140737488355328) (hbase : base ≤ w.heap.size)
    (h : ∀ v' w', w'.ownsRow base e size v' (n + m) (xs ++ news) → w.grownBy w' v.ownBlock → (v'.ownBlock = v.ownBlock ∨ v'.ownBlock = some w.heap.size) → K (a.put o.dst v') w') : if Region.wanted o (yielded ops a.tmps) = true then Oper.wp P o a w K Q else E := by
  have hw : Region.wanted o (yielded ops a.tmps) = true := by simp [Region.wanted, hgd]
  rw [if_pos hw]
  obtain ⟨v', w', hr, h2, h3, _, h5⟩ := run_append_own_at (P := P) w base t o.type e i z size bytes ht hi hz hsize hby hzs hsz v n xs hown ad m c news hl hnews h1 h63 hbytes hbase
  unfold Oper.wp execOp
  simp only [ho, resolve, invoke, builtin, Sem.run_bind, Sem.run_pure, Result.andThen_ok, List.map_toArray, List.map_cons, List.map_nil, hs, hx, hr]
  exact h v' w' h2 h3 h5
set_option maxRecDepth 100000 in
set_option maxHeartbeats 8000000 in
theorem netOf_any (D : DocT) (c0 c1 : Value) (w : World) (B : Nat) (hB : B ≤ w.heap.size) (hD : DocAt w B D c0 c1) (hZ : szDoc D ≤ 1099511627776) :
    Calls Try.prog 18 #[.agg #[c0, c1]] w fun e w' => ∃ M V base, e = .returned (.agg #[.map (some M), V]) ∧ FirstM w' M (namesF D) ∧ WaysO w' base V (waysF D) ∧ w.heap.size ≤ M ∧ w.heap.size ≤ base ∧ Below w.heap.size w w' := by
  obtain ⟨Ao, ko, Af, kf, rfl, rfl, _⟩ := doc_cells hD.1
  have hfl := frags_sz D
  have HB0 := Lib.hid hB
  have HDF := Lib.hid (fun (q : Nat) (x : FragT) (wx : World) (h : Below w.heap.size w wx) (hx : D.frags[q]? = some x) => hD.frag (h.mono hB) hx)
  have FS := Lib.hid (fun (wx : World) (h : Below w.heap.size w wx) => firsts_any D _ _ wx B (Nat.le_trans hB h.size) (TS.keep (fun b hb => ⟨hb, (h.mono hB).block b hb⟩) _ _ hD.1) (by omega))
  have HZ := Lib.hid (fun (x : FragT) (h : x ∈ D.frags) => frag_sz h)
  obtain ⟨i0, zz, hi0, kz0, kz1, kz2, kz3⟩ := gway_row
  clear hD hB
  obtain ⟨n, hn⟩ : ∃ n, w.heap.size = n := ⟨_, rfl⟩
  go_enter Try.func18, Try.ntmps18
  go_upto_region 1 with fail
  have B1 : Hid (Below n w ((w.alloc (.cells #[.slice Ao D.ops.length ko, .slice Af D.frags.length kf] 25)).alloc (.cells #[.map none, .slice none 0 0] 65))) := Lib.hid (by rw [← hn]; exact ((Below.refl _ _).alloc (Nat.le_refl _) _).alloc (by simp) _)
  have R1 : Hid (((w.alloc (.cells #[.slice Ao D.ops.length ko, .slice Af D.frags.length kf] 25)).alloc (.cells #[.map none, .slice none 0 0] 65)).heap[n + 1]? = some (.cells #[.map none, .slice none 0 0] 65 (0, 0))) := Lib.hid (by
    have h := heap_alloc_new (w.alloc (.cells #[.slice Ao D.ops.length ko, .slice Af D.frags.length kf] 25)) (.cells #[.map none, .slice none 0 0] 65)
    rw [World.size_alloc, hn] at h
    exact h)
  have D1 : Hid (((w.alloc (.cells #[.slice Ao D.ops.length ko, .slice Af D.frags.length kf] 25)).alloc (.cells #[.map none, .slice none 0 0] 65)).heap[n]? = some (.cells #[.slice Ao D.ops.length ko, .slice Af D.frags.length kf] 25 (0, 0))) := Lib.hid (by
    rw [Below.heap_alloc _ _ _ (by simp; omega), ← hn]
    exact heap_alloc_new _ _)
  generalize (w.alloc (.cells #[.slice Ao D.ops.length ko, .slice Af D.frags.length kf] 25)).alloc (.cells #[.map none, .slice none 0 0] 65) = w1 at B1 R1 D1 ⊢
  obtain ⟨⟨y0, y1⟩, _⟩ := gcells2 D1.out
  have hg1 : n + 1 < w1.heap.size := (Array.getElem?_eq_some_iff.1 R1.out).1
  rw [hn] at FS HDF HB0
  have HN := Lib.hid hn
  go_wp2_with fail
  refine (FS.out _ B1.out).mono ?_
  rintro e w2 ⟨M, rfl, hM, hMl, hb2⟩
  have hs2 := hb2.size
  have B2 := Lib.hid (B1.out.trans (hb2.mono (by omega)))
  have R2 := Lib.hid ((hb2.block _ hg1).trans R1.out)
  have D2 := Lib.hid ((hb2.block n (by omega)).trans D1.out)
  have F2 := Lib.hid hM
  have hMlt := hM.lt
  clear hb2 hM B1 R1 D1 FS y0 y1
  go_upto_region 2 with fail
  have hbn := gnew w2 (.cells #[.map (some M), .slice none 0 0] 65)
  have NI := Lib.hid (show NetI w n w2.heap.size M (namesF D) (.slice none 0 0) [] (w2.alloc (.cells #[.map (some M), .slice none 0 0] 65)) from ⟨B2.out.trans (hbn.mono (by omega)), F2.out.below hbn, heap_alloc_new _ _, (hbn.block _ (by omega)).trans R2.out, ⟨[], World.ownsRow_nil _ _ _ _, fun j l hj => by simp at hj⟩, hn, by omega, hMlt, by omega, by omega⟩)
  have D3 := Lib.hid ((hbn.block n (by omega)).trans D2.out)
  generalize w2.alloc (.cells #[.map (some M), .slice none 0 0] 65) = w3 at NI D3 ⊢
  generalize w2.heap.size = nb at NI ⊢
  clear hbn B2 R2 D2 F2 hn
  obtain ⟨⟨y0, y1⟩, _⟩ := gcells2 D3.out
  go_wp2_with fail
  clear y0 y1
  go_loopg [12] D.frags.length (fun g t wx => ∃ q : Nat, q + g = D.frags.length ∧ t = .int .i64 q ∧ Asd (∃ V, NetI w n nb M (namesF D) V ((waysF D).take q) wx))
  case atStart => exact ⟨0, by omega, rfl, Asd.intro ⟨_, NI.out⟩⟩
  case round =>
    obtain ⟨q, hq, rfl, HX⟩ := hrel
    obtain ⟨V, hni⟩ := HX.out
    obtain ⟨Av, cv, rfl⟩ : ∃ Av cv, V = .slice Av ((waysF D).take q).length cv := by
      obtain ⟨vs, h1, _⟩ := hni.row
      exact shape_own h1
    have hlw : ((waysF D).take q).length = q := by rw [List.length_take]; unfold waysF; rw [List.length_map]; omega
    rw [hlw] at hni
    have NI := Lib.hid hni
    clear HX hni
    cases gk with
    | zero =>
      obtain rfl : q = D.frags.length := by omega
      have hw := NI.out.row
      rw [List.take_of_length_le (by unfold waysF; simp)] at hw
      have HW := Lib.hid hw
      obtain ⟨⟨y0, y1⟩, _⟩ := gcells2 NI.out.box
      obtain ⟨_, u0, u1⟩ := gcells2 NI.out.res
      go_wp2_with fail
      have hbl := NI.out.low
      have hsz : ∀ W, W = (wr.setCell ⟨n + 1, 0, none⟩ (.map (some M))).setCell ⟨n + 1, 1, none⟩ (.slice Av D.frags.length cv) → W.heap.size = wr.heap.size ∧ (∀ b, b ≠ n + 1 → W.heap[b]? = wr.heap[b]?) ∧ W.heap[n + 1]? = some (.cells #[.map (some M), .slice Av D.frags.length cv] 65 (0, 0)) ∧ W.os = wr.os ∧ W.tape = wr.tape ∧ W.output = wr.output := by
        rintro W rfl
        refine ⟨by simp [World.setCell], fun b hb => (Below.heap_setCell _ _ _ _ hb).trans (Below.heap_setCell _ _ _ _ hb), ?_, rfl, rfl, rfl⟩
        have h := NI.out.res
        simp [World.setCell, Array.getElem?_modify, h]
      obtain ⟨W, hW⟩ : ∃ W, W = (wr.setCell ⟨n + 1, 0, none⟩ (.map (some M))).setCell ⟨n + 1, 1, none⟩ (.slice Av D.frags.length cv) := ⟨_, rfl⟩
      obtain ⟨e1, e2, e3, e4, e5, e6⟩ := hsz W hW
      rw [← hW]
      obtain ⟨⟨c0, c1⟩, _⟩ := gcells2 e3
      have hlt := NI.out.lts
      refine bodyPost_ret (gres_net rfl rfl c0 c1) rfl ⟨M, _, nb + 1, rfl, NI.out.fst.one (e2 M (by omega)), HW.out.blk (by omega) (fun b hb _ => e2 b (by omega)), by omega, by omega, ?_⟩
      rw [HN.out]
      exact ⟨e4.trans hbl.os, e5.trans hbl.tape, e6.trans hbl.output, by rw [e1]; exact hbl.size, fun b hb => (e2 b (by omega)).trans (hbl.block b hb)⟩
    | succ g =>
      have hqn : q < D.frags.length := by omega
      have hqn' : (q : Int) < (D.frags.length : Int) := by omega
      obtain ⟨x, hx⟩ : ∃ x, D.frags[q]? = some x := ⟨_, List.getElem?_eq_getElem hqn⟩
      obtain ⟨b, p, Ad, kd, As, ks, rfl, hlt, ⟨f0, f1, f2, f3⟩, _, _, hks, hsa, hsl⟩ := HDF.out q x wr NI.out.low hx
      have hxz := HZ.out x (List.mem_of_getElem? hx)
      have hpz := gpreL_sz x.sels
      have HWT : Hid ((waysF D).take (q + 1) = (waysF D).take q ++ [plcN (namesF D) (sprL (gpreL x.sels))]) := Lib.hid (by
        rw [List.take_add_one]
        unfold waysF
        rw [List.getElem?_map, hx]
        rfl)
      have HSA := Lib.hid hsa
      clear hx hsa
      go_upto_region 5 with fail
      clear f0 f1 f2 f3
      have hbn := gnew wr (.cells #[.string x.name, .string x.on, .slice Ad x.dirs.length kd, .slice As x.sels.len ks] 30)
      have NI0 := Lib.hid (NI.out.next hbn)
      have FX0 := Lib.hid (heap_alloc_new wr (.cells #[.string x.name, .string x.on, .slice Ad x.dirs.length kd, .slice As x.sels.len ks] 30))
      have hgx : nb < wr.heap.size := (Array.getElem?_eq_some_iff.1 NI.out.box).1
      have hbs : B ≤ wr.heap.size := by have h1 := NI.out.low.size; have h2 := HB0.out; have h3 := HN.out; omega
      have HSA := Lib.hid (HSA.out.below (hbn.mono hbs))
      have HXO : Hid (∀ b, (Value.slice Av q cv).ownBlock = some b → b < wr.heap.size) := Lib.hid (by
        obtain ⟨vs, h1, _⟩ := NI.out.row
        exact fun b e => (h1.lt b e).2)
      have HB4 : Hid (B ≤ (wr.alloc (.cells #[.string x.name, .string x.on, .slice Ad x.dirs.length kd, .slice As x.sels.len ks] 30)).heap.size) := Lib.hid (by simp; omega)
      generalize wr.alloc (.cells #[.string x.name, .string x.on, .slice Ad x.dirs.length kd, .slice As x.sels.len ks] 30) = w4 at NI0 FX0 HSA HB4 ⊢
      generalize wr.heap.size = gx at FX0 hgx hbs HXO ⊢
      clear hbn NI
      refine wp_region_held_drew (S := fun w' => w'.cell? ⟨gx, 3, none⟩ = some (.slice As x.sels.len ks)) (by kernel_rfl) (gcells4 FX0.out).1.2.2.2 (fun hHeld => ?_)
      obtain ⟨wd, hwd⟩ : ∃ W, w4.drew = W := ⟨_, rfl⟩
      rw [hwd] at hHeld ⊢
      have hdw : Below w4.heap.size w4 wd := by rw [← hwd]; exact Below.drew (Below.refl _ _)
      have NI0 := Lib.hid (NI0.out.next hdw)
      have FX0 := Lib.hid ((hdw.block _ (Array.getElem?_eq_some_iff.1 FX0.out).1).trans FX0.out)
      have HSA := Lib.hid (HSA.out.below (hdw.mono (by have := (Array.getElem?_eq_some_iff.1 FX0.out).1; have := hdw.size; have := HB4.out; omega)))
      have PL := Lib.hid (places_any (namesF D) M (.slice Av q cv) x.sels As ks wd B NI0.out.fst (by have h1 := hdw.size; have := HB4.out; omega) HSA.out hks _ rfl (by omega) (fun s hs => by have := spr_sz hs; omega))
      clear hwd HSA
      obtain ⟨⟨x0, x1⟩, _⟩ := gcells2 NI0.out.box
      obtain ⟨⟨z0, z1, z2, z3⟩, _⟩ := gcells4 FX0.out
      have hgx2 : gx < wd.heap.size := (Array.getElem?_eq_some_iff.1 FX0.out).1
      have hnbw : nb < wd.heap.size := (Array.getElem?_eq_some_iff.1 NI0.out.box).1
      have HWD : Hid (∀ b, (Value.slice Av q cv).ownBlock = some b → b < wd.heap.size) := Lib.hid (fun b e => Nat.lt_trans (HXO.out b e) hgx2)
      refine wpAnyH_take (i := 0) (oi := _) (v := ?_) rfl (by kernel_rfl) (by kernel_rfl) (by kernel_rfl) (fun _ _ _ h => h) (Or.inl ⟨by rfl, ?_⟩) (by first | assumption | trivial) ?_
      rotate_left
      · (intro w hSw; (try dsimp only at hSw); go_simp; try with_reducible rfl)
      try simp only [Act.put, List.getElem_toArray, List.getElem_cons_zero, List.setIfInBounds_toArray, List.set_cons_zero, List.set_cons_succ]
      refine wpAnyH_take (i := 3) (oi := _) (v := ?_) rfl (by kernel_rfl) (by kernel_rfl) (by kernel_rfl) (fun _ _ _ h => h) (Or.inl ⟨by rfl, ?_⟩) (by first | assumption | trivial) ?_
      rotate_left
      · (intro w hSw; (try dsimp only at hSw); go_simp; try with_reducible rfl)
      try simp only [Act.put, List.getElem_toArray, List.getElem_cons_zero, List.getElem_cons_succ, List.setIfInBounds_toArray, List.set_cons_zero, List.set_cons_succ]
      refine wpAnyH_ready (rs := [1, 2, 4]) (by kernel_rfl) (by simp) ?_
      refine AllReadyH.cons (o := _) rfl (fun K hK => ?_) ?_
      · go_simp
        refine hK.out _ _ hHeld (fun hHeld => ?_)
        clear hK K
        try simp only [Act.put, List.getElem_toArray, List.getElem_cons_zero, List.getElem_cons_succ, List.setIfInBounds_toArray, List.set_cons_zero, List.set_cons_succ]
        refine wpAnyH_ready (rs := [2, 4]) (by kernel_rfl) (by simp) ?_
        refine AllReadyH.cons (o := _) rfl (fun K hK => ?_) ?_
        · go_simp
          refine hK.out _ _ hHeld (fun hHeld => ?_)
          clear hK K
          try simp only [Act.put, List.getElem_toArray, List.getElem_cons_zero, List.getElem_cons_succ, List.setIfInBounds_toArray, List.set_cons_zero, List.set_cons_succ]
          refine wpAnyH_ready (rs := [4]) (by kernel_rfl) (by simp) ?_
          refine AllReadyH.cons (o := _) rfl (fun K hK => ?_) AllReadyH.nil
          go_simp
          refine hK.out _ _ hHeld (fun hHeld => ?_)
          clear hK K
          try simp only [Act.put, List.getElem_toArray, List.getElem_cons_zero, List.getElem_cons_succ, List.setIfInBounds_toArray, List.set_cons_zero, List.set_cons_succ]
          refine wpAnyH_ready (rs := [5]) (by kernel_rfl) (by simp) ?_
          refine AllReadyH.cons (o := _) rfl (fun K hK => ?_) AllReadyH.nil
          go_simp
          refine PL.out.mono ?_
          rintro e wc ⟨VR, rfl, hor, hb⟩
          obtain ⟨AR, cR, rfl, hcR, hIR⟩ := ints_own hor
          have NI1 := Lib.hid (NI0.out.next hb)
          have FX1 := Lib.hid ((hb.block _ (Array.getElem?_eq_some_iff.1 FX0.out).1).trans FX0.out)
          have HIR := Lib.hid hIR
          have hsc := hb.size
          clear hor hb hIR
          obtain ⟨⟨x0, x1⟩, _⟩ := gcells2 NI1.out.box
          obtain ⟨⟨z0, z1, z2, z3⟩, _⟩ := gcells4 FX1.out
          go_wp2_with fail
          refine hK.out _ _ z3 (fun hHeld => ?_)
          clear hK K
          try simp only [Act.put, List.getElem_toArray, List.getElem_cons_zero, List.getElem_cons_succ, List.setIfInBounds_toArray, List.set_cons_zero, List.set_cons_succ]
          refine wpAnyH_ready (rs := [6]) (by kernel_rfl) (by simp) ?_
          refine AllReadyH.cons (o := _) rfl (fun K hK => ?_) AllReadyH.nil
          go_simp
          have NI2 := Lib.hid (NI1.out.next (gnew wc (.cells #[.slice AR (plcN (namesF D) (sprL (gpreL x.sels))).length cR] 69)))
          have FX2 := Lib.hid (((gnew wc (.cells #[.slice AR (plcN (namesF D) (sprL (gpreL x.sels))).length cR] 69)).block _ (Array.getElem?_eq_some_iff.1 FX1.out).1).trans FX1.out)
          have hx0 := (gcells2 NI2.out.box).1
          have hz3 := (gcells4 FX2.out).1.2.2.2
          refine hK.out _ _ hz3 (fun hHeld => ?_)
          clear hK K
          try simp only [Act.put, List.getElem_toArray, List.getElem_cons_zero, List.getElem_cons_succ, List.setIfInBounds_toArray, List.set_cons_zero, List.set_cons_succ]
          refine wpAnyH_ready (rs := [7]) (by kernel_rfl) (by simp) ?_
          refine AllReadyH.cons (o := _) rfl (fun K hK => ?_) AllReadyH.nil
          obtain ⟨vs, hw1, hw2⟩ := NI1.out.row
          rw [hlw] at hw1
          refine gstep_app rfl _ _ 63 (by rfl) (nb + 1) 69 i0 zz 1 24 Try.underlying63 hi0 kz0 kz1 kz2 kz3 (by decide) _ q vs (by rfl) (hw1.alloc _) ⟨wc.heap.size, 0, none⟩ 1 1 [.slice AR (plcN (namesF D) (sprL (gpreL x.sels))).length cR] (by rfl) rfl (gone_news _ _ _ rfl) (by intro y hy; simp at hy; subst hy; rfl) (by unfold maxLen; omega) (by omega) (by have := (Array.getElem?_eq_some_iff.1 NI2.out.box).1; omega) ?_
          intro v' w' hown' hgrow hat
          obtain ⟨g', cap', rfl⟩ := ownsRow_succ hown'
          have HO := Lib.hid hown'
          have HG := Lib.hid hgrow
          have HAT := Lib.hid hat
          have HW1 := Lib.hid hw1
          have HW2 := Lib.hid hw2
          have hVn : ∀ b, (Value.slice Av q cv).ownBlock = some b → nb + 1 ≤ b ∧ b < wc.heap.size := fun b e => hw1.lt b e
          have hbx3 := (hgrow.block nb (Array.getElem?_eq_some_iff.1 NI2.out.box).1 (fun e => by have := (hVn nb e.symm).1; omega)).trans NI2.out.box
          have hfx3 := (hgrow.block gx (Array.getElem?_eq_some_iff.1 FX2.out).1 (fun e => by have := HXO.out gx e.symm; omega)).trans FX2.out
          obtain ⟨_, v0, v1⟩ := gcells2 hbx3
          have hz3 := (gcells4 hfx3).1.2.2.2
          clear hw1 hw2 hown' hgrow hat
          refine hK.out _ _ hz3 (fun hHeld => ?_)
          clear hK K
          try simp only [Act.put, List.getElem_toArray, List.getElem_cons_zero, List.getElem_cons_succ, List.setIfInBounds_toArray, List.set_cons_zero, List.set_cons_succ]
          refine wpAnyH_take (i := 8) (oi := _) (v := ?_) rfl (by kernel_rfl) (by kernel_rfl) (by kernel_rfl) (fun _ _ _ h => h) (Or.inl ⟨by rfl, ?_⟩) (by first | assumption | trivial) ?_
          rotate_left
          · (intro w hSw; (try dsimp only at hSw); go_simp; try with_reducible rfl)
          try simp only [Act.put, List.getElem_toArray, List.getElem_cons_zero, List.getElem_cons_succ, List.setIfInBounds_toArray, List.set_cons_zero, List.set_cons_succ]
          refine wpAnyH_ready (rs := [9]) (by kernel_rfl) (by simp) ?_
          refine AllReadyH.cons (o := _) rfl (fun K hK => ?_) AllReadyH.nil
          go_simp
          refine hK.out _ _ ((World.cell?_of_block (a := ⟨gx, 3, none⟩) (Below.heap_setCell _ _ _ _ (by show gx ≠ nb; omega))).trans hz3) (fun hHeld => ?_)
          clear hK K
          try simp only [Act.put, List.getElem_toArray, List.getElem_cons_zero, List.getElem_cons_succ, List.setIfInBounds_toArray, List.set_cons_zero, List.set_cons_succ]
          refine wpAnyH_done (by kernel_rfl) ?_ _
          go_wp2_with fail
          go_roundg g
          case measure => omega
          case rel =>
            refine ⟨q + 1, by omega, by go_num, Asd.intro ⟨.slice (some ⟨g', 0, none⟩) (q + 1) cap', ?_⟩⟩
            rw [HWT.out]
            refine NetI.push (W := wc) (ws := (waysF D).take q) NI1.out (by rw [hlw]; exact HW1.out) HW2.out hcR (HIR.out.keep fun b hb => ⟨⟨by omega, hb.2, fun e => by have := HWD.out b e; omega⟩, rfl⟩) HG.out (by rw [hlw]; exact HO.out) rfl ?_
            rcases HAT.out with e | e
            · exact .inl e.symm
            · exact .inr (by simpa [Value.ownBlock] using e)
        refine AllReadyH.cons (o := _) rfl (fun K hK => ?_) AllReadyH.nil
        go_simp
        refine hK.out _ _ hHeld (fun hHeld => ?_)
        clear hK K
        try simp only [Act.put, List.getElem_toArray, List.getElem_cons_zero, List.getElem_cons_succ, List.setIfInBounds_toArray, List.set_cons_zero, List.set_cons_succ]
        refine wpAnyH_ready (rs := [2]) (by kernel_rfl) (by simp) ?_
        refine AllReadyH.cons (o := _) rfl (fun K hK => ?_) AllReadyH.nil
        go_simp
        refine hK.out _ _ hHeld (fun hHeld => ?_)
        clear hK K
        try simp only [Act.put, List.getElem_toArray, List.getElem_cons_zero, List.getElem_cons_succ, List.setIfInBounds_toArray, List.set_cons_zero, List.set_cons_succ]
        refine wpAnyH_ready (rs := [5]) (by kernel_rfl) (by simp) ?_
        refine AllReadyH.cons (o := _) rfl (fun K hK => ?_) AllReadyH.nil
        go_simp
        refine PL.out.mono ?_
        rintro e wc ⟨VR, rfl, hor, hb⟩
        obtain ⟨AR, cR, rfl, hcR, hIR⟩ := ints_own hor
        have NI1 := Lib.hid (NI0.out.next hb)
        have FX1 := Lib.hid ((hb.block _ (Array.getElem?_eq_some_iff.1 FX0.out).1).trans FX0.out)
        have HIR := Lib.hid hIR
        have hsc := hb.size
        clear hor hb hIR
        obtain ⟨⟨x0, x1⟩, _⟩ := gcells2 NI1.out.box
        obtain ⟨⟨z0, z1, z2, z3⟩, _⟩ := gcells4 FX1.out
        go_wp2_with fail
        refine hK.out _ _ z3 (fun hHeld => ?_)
        clear hK K
        try simp only [Act.put, List.getElem_toArray, List.getElem_cons_zero, List.getElem_cons_succ, List.setIfInBounds_toArray, List.set_cons_zero, List.set_cons_succ]
        refine wpAnyH_ready (rs := [6]) (by kernel_rfl) (by simp) ?_
        refine AllReadyH.cons (o := _) rfl (fun K hK => ?_) AllReadyH.nil
        go_simp
        have NI2 := Lib.hid (NI1.out.next (gnew wc (.cells #[.slice AR (plcN (namesF D) (sprL (gpreL x.sels))).length cR] 69)))
        have FX2 := Lib.hid (((gnew wc (.cells #[.slice AR (plcN (namesF D) (sprL (gpreL x.sels))).length cR] 69)).block _ (Array.getElem?_eq_some_iff.1 FX1.out).1).trans FX1.out)
        have hx0 := (gcells2 NI2.out.box).1
        have hz3 := (gcells4 FX2.out).1.2.2.2
        refine hK.out _ _ hz3 (fun hHeld => ?_)
        clear hK K
        try simp only [Act.put, List.getElem_toArray, List.getElem_cons_zero, List.getElem_cons_succ, List.setIfInBounds_toArray, List.set_cons_zero, List.set_cons_succ]
        refine wpAnyH_ready (rs := [7]) (by kernel_rfl) (by simp) ?_
        refine AllReadyH.cons (o := _) rfl (fun K hK => ?_) AllReadyH.nil
        obtain ⟨vs, hw1, hw2⟩ := NI1.out.row
        rw [hlw] at hw1
        refine gstep_app rfl _ _ 63 (by rfl) (nb + 1) 69 i0 zz 1 24 Try.underlying63 hi0 kz0 kz1 kz2 kz3 (by decide) _ q vs (by rfl) (hw1.alloc _) ⟨wc.heap.size, 0, none⟩ 1 1 [.slice AR (plcN (namesF D) (sprL (gpreL x.sels))).length cR] (by rfl) rfl (gone_news _ _ _ rfl) (by intro y hy; simp at hy; subst hy; rfl) (by unfold maxLen; omega) (by omega) (by have := (Array.getElem?_eq_some_iff.1 NI2.out.box).1; omega) ?_
        intro v' w' hown' hgrow hat
        obtain ⟨g', cap', rfl⟩ := ownsRow_succ hown'
        have HO := Lib.hid hown'
        have HG := Lib.hid hgrow
        have HAT := Lib.hid hat
        have HW1 := Lib.hid hw1
        have HW2 := Lib.hid hw2
        have hVn : ∀ b, (Value.slice Av q cv).ownBlock = some b → nb + 1 ≤ b ∧ b < wc.heap.size := fun b e => hw1.lt b e
        have hbx3 := (hgrow.block nb (Array.getElem?_eq_some_iff.1 NI2.out.box).1 (fun e => by have := (hVn nb e.symm).1; omega)).trans NI2.out.box
        have hfx3 := (hgrow.block gx (Array.getElem?_eq_some_iff.1 FX2.out).1 (fun e => by have := HXO.out gx e.symm; omega)).trans FX2.out
        obtain ⟨_, v0, v1⟩ := gcells2 hbx3
        have hz3 := (gcells4 hfx3).1.2.2.2
        clear hw1 hw2 hown' hgrow hat
        refine hK.out _ _ hz3 (fun hHeld => ?_)
        clear hK K
        try simp only [Act.put, List.getElem_toArray, List.getElem_cons_zero, List.getElem_cons_succ, List.setIfInBounds_toArray, List.set_cons_zero, List.set_cons_succ]
        refine wpAnyH_take (i := 8) (oi := _) (v := ?_) rfl (by kernel_rfl) (by kernel_rfl) (by kernel_rfl) (fun _ _ _ h => h) (Or.inl ⟨by rfl, ?_⟩) (by first | assumption | trivial) ?_
        rotate_left
        · (intro w hSw; (try dsimp only at hSw); go_simp; try with_reducible rfl)
        try simp only [Act.put, List.getElem_toArray, List.getElem_cons_zero, List.getElem_cons_succ, List.setIfInBounds_toArray, List.set_cons_zero, List.set_cons_succ]
        refine wpAnyH_ready (rs := [9]) (by kernel_rfl) (by simp) ?_
        refine AllReadyH.cons (o := _) rfl (fun K hK => ?_) AllReadyH.nil
        go_simp
        refine hK.out _ _ ((World.cell?_of_block (a := ⟨gx, 3, none⟩) (Below.heap_setCell _ _ _ _ (by show gx ≠ nb; omega))).trans hz3) (fun hHeld => ?_)
        clear hK K
        try simp only [Act.put, List.getElem_toArray, List.getElem_cons_zero, List.getElem_cons_succ, List.setIfInBounds_toArray, List.set_cons_zero, List.set_cons_succ]
        refine wpAnyH_done (by kernel_rfl) ?_ _
        go_wp2_with fail
        go_roundg g
        case measure => omega
        case rel =>
          refine ⟨q + 1, by omega, by go_num, Asd.intro ⟨.slice (some ⟨g', 0, none⟩) (q + 1) cap', ?_⟩⟩
          rw [HWT.out]
          refine NetI.push (W := wc) (ws := (waysF D).take q) NI1.out (by rw [hlw]; exact HW1.out) HW2.out hcR (HIR.out.keep fun b hb => ⟨⟨by omega, hb.2, fun e => by have := HWD.out b e; omega⟩, rfl⟩) HG.out (by rw [hlw]; exact HO.out) rfl ?_
          rcases HAT.out with e | e
          · exact .inl e.symm
          · exact .inr (by simpa [Value.ownBlock] using e)
      refine AllReadyH.cons (o := _) rfl (fun K hK => ?_) ?_
      · go_simp
        refine hK.out _ _ hHeld (fun hHeld => ?_)
        clear hK K
        try simp only [Act.put, List.getElem_toArray, List.getElem_cons_zero, List.getElem_cons_succ, List.setIfInBounds_toArray, List.set_cons_zero, List.set_cons_succ]
        refine wpAnyH_ready (rs := [1, 4]) (by kernel_rfl) (by simp) ?_
        refine AllReadyH.cons (o := _) rfl (fun K hK => ?_) ?_
        · go_simp
          refine hK.out _ _ hHeld (fun hHeld => ?_)
          clear hK K
          try simp only [Act.put, List.getElem_toArray, List.getElem_cons_zero, List.getElem_cons_succ, List.setIfInBounds_toArray, List.set_cons_zero, List.set_cons_succ]
          refine wpAnyH_ready (rs := [4]) (by kernel_rfl) (by simp) ?_
          refine AllReadyH.cons (o := _) rfl (fun K hK => ?_) AllReadyH.nil
          go_simp
          refine hK.out _ _ hHeld (fun hHeld => ?_)
          clear hK K
          try simp only [Act.put, List.getElem_toArray, List.getElem_cons_zero, List.getElem_cons_succ, List.setIfInBounds_toArray, List.set_cons_zero, List.set_cons_succ]
          refine wpAnyH_ready (rs := [5]) (by kernel_rfl) (by simp) ?_
          refine AllReadyH.cons (o := _) rfl (fun K hK => ?_) AllReadyH.nil
          go_simp
          refine PL.out.mono ?_
          rintro e wc ⟨VR, rfl, hor, hb⟩
          obtain ⟨AR, cR, rfl, hcR, hIR⟩ := ints_own hor
          have NI1 := Lib.hid (NI0.out.next hb)
          have FX1 := Lib.hid ((hb.block _ (Array.getElem?_eq_some_iff.1 FX0.out).1).trans FX0.out)
          have HIR := Lib.hid hIR
          have hsc := hb.size
          clear hor hb hIR
          obtain ⟨⟨x0, x1⟩, _⟩ := gcells2 NI1.out.box
          obtain ⟨⟨z0, z1, z2, z3⟩, _⟩ := gcells4 FX1.out
          go_wp2_with fail
          refine hK.out _ _ z3 (fun hHeld => ?_)
          clear hK K
          try simp only [Act.put, List.getElem_toArray, List.getElem_cons_zero, List.getElem_cons_succ, List.setIfInBounds_toArray, List.set_cons_zero, List.set_cons_succ]
          refine wpAnyH_ready (rs := [6]) (by kernel_rfl) (by simp) ?_
          refine AllReadyH.cons (o := _) rfl (fun K hK => ?_) AllReadyH.nil
          go_simp
          have NI2 := Lib.hid (NI1.out.next (gnew wc (.cells #[.slice AR (plcN (namesF D) (sprL (gpreL x.sels))).length cR] 69)))
          have FX2 := Lib.hid (((gnew wc (.cells #[.slice AR (plcN (namesF D) (sprL (gpreL x.sels))).length cR] 69)).block _ (Array.getElem?_eq_some_iff.1 FX1.out).1).trans FX1.out)
          have hx0 := (gcells2 NI2.out.box).1
          have hz3 := (gcells4 FX2.out).1.2.2.2
          refine hK.out _ _ hz3 (fun hHeld => ?_)
          clear hK K
          try simp only [Act.put, List.getElem_toArray, List.getElem_cons_zero, List.getElem_cons_succ, List.setIfInBounds_toArray, List.set_cons_zero, List.set_cons_succ]
          refine wpAnyH_ready (rs := [7]) (by kernel_rfl) (by simp) ?_
          refine AllReadyH.cons (o := _) rfl (fun K hK => ?_) AllReadyH.nil
          obtain ⟨vs, hw1, hw2⟩ := NI1.out.row
          rw [hlw] at hw1
          refine gstep_app rfl _ _ 63 (by rfl) (nb + 1) 69 i0 zz 1 24 Try.underlying63 hi0 kz0 kz1 kz2 kz3 (by decide) _ q vs (by rfl) (hw1.alloc _) ⟨wc.heap.size, 0, none⟩ 1 1 [.slice AR (plcN (namesF D) (sprL (gpreL x.sels))).length cR] (by rfl) rfl (gone_news _ _ _ rfl) (by intro y hy; simp at hy; subst hy; rfl) (by unfold maxLen; omega) (by omega) (by have := (Array.getElem?_eq_some_iff.1 NI2.out.box).1; omega) ?_
          intro v' w' hown' hgrow hat
          obtain ⟨g', cap', rfl⟩ := ownsRow_succ hown'
          have HO := Lib.hid hown'
          have HG := Lib.hid hgrow
          have HAT := Lib.hid hat
          have HW1 := Lib.hid hw1
          have HW2 := Lib.hid hw2
          have hVn : ∀ b, (Value.slice Av q cv).ownBlock = some b → nb + 1 ≤ b ∧ b < wc.heap.size := fun b e => hw1.lt b e
          have hbx3 := (hgrow.block nb (Array.getElem?_eq_some_iff.1 NI2.out.box).1 (fun e => by have := (hVn nb e.symm).1; omega)).trans NI2.out.box
          have hfx3 := (hgrow.block gx (Array.getElem?_eq_some_iff.1 FX2.out).1 (fun e => by have := HXO.out gx e.symm; omega)).trans FX2.out
          obtain ⟨_, v0, v1⟩ := gcells2 hbx3
          have hz3 := (gcells4 hfx3).1.2.2.2
          clear hw1 hw2 hown' hgrow hat
          refine hK.out _ _ hz3 (fun hHeld => ?_)
          clear hK K
          try simp only [Act.put, List.getElem_toArray, List.getElem_cons_zero, List.getElem_cons_succ, List.setIfInBounds_toArray, List.set_cons_zero, List.set_cons_succ]
          refine wpAnyH_take (i := 8) (oi := _) (v := ?_) rfl (by kernel_rfl) (by kernel_rfl) (by kernel_rfl) (fun _ _ _ h => h) (Or.inl ⟨by rfl, ?_⟩) (by first | assumption | trivial) ?_
          rotate_left
          · (intro w hSw; (try dsimp only at hSw); go_simp; try with_reducible rfl)
          try simp only [Act.put, List.getElem_toArray, List.getElem_cons_zero, List.getElem_cons_succ, List.setIfInBounds_toArray, List.set_cons_zero, List.set_cons_succ]
          refine wpAnyH_ready (rs := [9]) (by kernel_rfl) (by simp) ?_
          refine AllReadyH.cons (o := _) rfl (fun K hK => ?_) AllReadyH.nil
          go_simp
          refine hK.out _ _ ((World.cell?_of_block (a := ⟨gx, 3, none⟩) (Below.heap_setCell _ _ _ _ (by show gx ≠ nb; omega))).trans hz3) (fun hHeld => ?_)
          clear hK K
          try simp only [Act.put, List.getElem_toArray, List.getElem_cons_zero, List.getElem_cons_succ, List.setIfInBounds_toArray, List.set_cons_zero, List.set_cons_succ]
          refine wpAnyH_done (by kernel_rfl) ?_ _
          go_wp2_with fail
          go_roundg g
          case measure => omega
          case rel =>
            refine ⟨q + 1, by omega, by go_num, Asd.intro ⟨.slice (some ⟨g', 0, none⟩) (q + 1) cap', ?_⟩⟩
            rw [HWT.out]
            refine NetI.push (W := wc) (ws := (waysF D).take q) NI1.out (by rw [hlw]; exact HW1.out) HW2.out hcR (HIR.out.keep fun b hb => ⟨⟨by omega, hb.2, fun e => by have := HWD.out b e; omega⟩, rfl⟩) HG.out (by rw [hlw]; exact HO.out) rfl ?_
            rcases HAT.out with e | e
            · exact .inl e.symm
            · exact .inr (by simpa [Value.ownBlock] using e)
        refine AllReadyH.cons (o := _) rfl (fun K hK => ?_) AllReadyH.nil
        go_simp
        refine hK.out _ _ hHeld (fun hHeld => ?_)
        clear hK K
        try simp only [Act.put, List.getElem_toArray, List.getElem_cons_zero, List.getElem_cons_succ, List.setIfInBounds_toArray, List.set_cons_zero, List.set_cons_succ]
        refine wpAnyH_ready (rs := [1, 5]) (by kernel_rfl) (by simp) ?_
        refine AllReadyH.cons (o := _) rfl (fun K hK => ?_) ?_
        · go_simp
          refine hK.out _ _ hHeld (fun hHeld => ?_)
          clear hK K
          try simp only [Act.put, List.getElem_toArray, List.getElem_cons_zero, List.getElem_cons_succ, List.setIfInBounds_toArray, List.set_cons_zero, List.set_cons_succ]
          refine wpAnyH_ready (rs := [5]) (by kernel_rfl) (by simp) ?_
          refine AllReadyH.cons (o := _) rfl (fun K hK => ?_) AllReadyH.nil
          go_simp
          refine PL.out.mono ?_
          rintro e wc ⟨VR, rfl, hor, hb⟩
          obtain ⟨AR, cR, rfl, hcR, hIR⟩ := ints_own hor
          have NI1 := Lib.hid (NI0.out.next hb)
          have FX1 := Lib.hid ((hb.block _ (Array.getElem?_eq_some_iff.1 FX0.out).1).trans FX0.out)
          have HIR := Lib.hid hIR
          have hsc := hb.size
          clear hor hb hIR
          obtain ⟨⟨x0, x1⟩, _⟩ := gcells2 NI1.out.box
          obtain ⟨⟨z0, z1, z2, z3⟩, _⟩ := gcells4 FX1.out
          go_wp2_with fail
          refine hK.out _ _ z3 (fun hHeld => ?_)
          clear hK K
          try simp only [Act.put, List.getElem_toArray, List.getElem_cons_zero, List.getElem_cons_succ, List.setIfInBounds_toArray, List.set_cons_zero, List.set_cons_succ]
          refine wpAnyH_ready (rs := [6]) (by kernel_rfl) (by simp) ?_
          refine AllReadyH.cons (o := _) rfl (fun K hK => ?_) AllReadyH.nil
          go_simp
          have NI2 := Lib.hid (NI1.out.next (gnew wc (.cells #[.slice AR (plcN (namesF D) (sprL (gpreL x.sels))).length cR] 69)))
          have FX2 := Lib.hid (((gnew wc (.cells #[.slice AR (plcN (namesF D) (sprL (gpreL x.sels))).length cR] 69)).block _ (Array.getElem?_eq_some_iff.1 FX1.out).1).trans FX1.out)
          have hx0 := (gcells2 NI2.out.box).1
          have hz3 := (gcells4 FX2.out).1.2.2.2
          refine hK.out _ _ hz3 (fun hHeld => ?_)
          clear hK K
          try simp only [Act.put, List.getElem_toArray, List.getElem_cons_zero, List.getElem_cons_succ, List.setIfInBounds_toArray, List.set_cons_zero, List.set_cons_succ]
          refine wpAnyH_ready (rs := [7]) (by kernel_rfl) (by simp) ?_
          refine AllReadyH.cons (o := _) rfl (fun K hK => ?_) AllReadyH.nil
          obtain ⟨vs, hw1, hw2⟩ := NI1.out.row
          rw [hlw] at hw1
          refine gstep_app rfl _ _ 63 (by rfl) (nb + 1) 69 i0 zz 1 24 Try.underlying63 hi0 kz0 kz1 kz2 kz3 (by decide) _ q vs (by rfl) (hw1.alloc _) ⟨wc.heap.size, 0, none⟩ 1 1 [.slice AR (plcN (namesF D) (sprL (gpreL x.sels))).length cR] (by rfl) rfl (gone_news _ _ _ rfl) (by intro y hy; simp at hy; subst hy; rfl) (by unfold maxLen; omega) (by omega) (by have := (Array.getElem?_eq_some_iff.1 NI2.out.box).1; omega) ?_
          intro v' w' hown' hgrow hat
          obtain ⟨g', cap', rfl⟩ := ownsRow_succ hown'
          have HO := Lib.hid hown'
          have HG := Lib.hid hgrow
          have HAT := Lib.hid hat
          have HW1 := Lib.hid hw1
          have HW2 := Lib.hid hw2
          have hVn : ∀ b, (Value.slice Av q cv).ownBlock = some b → nb + 1 ≤ b ∧ b < wc.heap.size := fun b e => hw1.lt b e
          have hbx3 := (hgrow.block nb (Array.getElem?_eq_some_iff.1 NI2.out.box).1 (fun e => by have := (hVn nb e.symm).1; omega)).trans NI2.out.box
          have hfx3 := (hgrow.block gx (Array.getElem?_eq_some_iff.1 FX2.out).1 (fun e => by have := HXO.out gx e.symm; omega)).trans FX2.out
          obtain ⟨_, v0, v1⟩ := gcells2 hbx3
          have hz3 := (gcells4 hfx3).1.2.2.2
          clear hw1 hw2 hown' hgrow hat
          refine hK.out _ _ hz3 (fun hHeld => ?_)
          clear hK K
          try simp only [Act.put, List.getElem_toArray, List.getElem_cons_zero, List.getElem_cons_succ, List.setIfInBounds_toArray, List.set_cons_zero, List.set_cons_succ]
          refine wpAnyH_take (i := 8) (oi := _) (v := ?_) rfl (by kernel_rfl) (by kernel_rfl) (by kernel_rfl) (fun _ _ _ h => h) (Or.inl ⟨by rfl, ?_⟩) (by first | assumption | trivial) ?_
          rotate_left
          · (intro w hSw; (try dsimp only at hSw); go_simp; try with_reducible rfl)
          try simp only [Act.put, List.getElem_toArray, List.getElem_cons_zero, List.getElem_cons_succ, List.setIfInBounds_toArray, List.set_cons_zero, List.set_cons_succ]
          refine wpAnyH_ready (rs := [9]) (by kernel_rfl) (by simp) ?_
          refine AllReadyH.cons (o := _) rfl (fun K hK => ?_) AllReadyH.nil
          go_simp
          refine hK.out _ _ ((World.cell?_of_block (a := ⟨gx, 3, none⟩) (Below.heap_setCell _ _ _ _ (by show gx ≠ nb; omega))).trans hz3) (fun hHeld => ?_)
          clear hK K
          try simp only [Act.put, List.getElem_toArray, List.getElem_cons_zero, List.getElem_cons_succ, List.setIfInBounds_toArray, List.set_cons_zero, List.set_cons_succ]
          refine wpAnyH_done (by kernel_rfl) ?_ _
          go_wp2_with fail
          go_roundg g
          case measure => omega
          case rel =>
            refine ⟨q + 1, by omega, by go_num, Asd.intro ⟨.slice (some ⟨g', 0, none⟩) (q + 1) cap', ?_⟩⟩
            rw [HWT.out]
            refine NetI.push (W := wc) (ws := (waysF D).take q) NI1.out (by rw [hlw]; exact HW1.out) HW2.out hcR (HIR.out.keep fun b hb => ⟨⟨by omega, hb.2, fun e => by have := HWD.out b e; omega⟩, rfl⟩) HG.out (by rw [hlw]; exact HO.out) rfl ?_
            rcases HAT.out with e | e
            · exact .inl e.symm
            · exact .inr (by simpa [Value.ownBlock] using e)
        refine AllReadyH.cons (o := _) rfl (fun K hK => ?_) AllReadyH.nil
        go_simp
        refine PL.out.mono ?_
        rintro e wc ⟨VR, rfl, hor, hb⟩
        obtain ⟨AR, cR, rfl, hcR, hIR⟩ := ints_own hor
        have NI1 := Lib.hid (NI0.out.next hb)
        have FX1 := Lib.hid ((hb.block _ (Array.getElem?_eq_some_iff.1 FX0.out).1).trans FX0.out)
        have HIR := Lib.hid hIR
        have hsc := hb.size
        clear hor hb hIR
        obtain ⟨⟨x0, x1⟩, _⟩ := gcells2 NI1.out.box
        obtain ⟨⟨z0, z1, z2, z3⟩, _⟩ := gcells4 FX1.out
        go_wp2_with fail
        refine hK.out _ _ z3 (fun hHeld => ?_)
        clear hK K
        try simp only [Act.put, List.getElem_toArray, List.getElem_cons_zero, List.getElem_cons_succ, List.setIfInBounds_toArray, List.set_cons_zero, List.set_cons_succ]
        refine wpAnyH_ready (rs := [1, 6]) (by kernel_rfl) (by simp) ?_
        refine AllReadyH.cons (o := _) rfl (fun K hK => ?_) ?_
        · go_simp
          refine hK.out _ _ hHeld (fun hHeld => ?_)
          clear hK K
          try simp only [Act.put, List.getElem_toArray, List.getElem_cons_zero, List.getElem_cons_succ, List.setIfInBounds_toArray, List.set_cons_zero, List.set_cons_succ]
          refine wpAnyH_ready (rs := [6]) (by kernel_rfl) (by simp) ?_
          refine AllReadyH.cons (o := _) rfl (fun K hK => ?_) AllReadyH.nil
          go_simp
          have NI2 := Lib.hid (NI1.out.next (gnew wc (.cells #[.slice AR (plcN (namesF D) (sprL (gpreL x.sels))).length cR] 69)))
          have FX2 := Lib.hid (((gnew wc (.cells #[.slice AR (plcN (namesF D) (sprL (gpreL x.sels))).length cR] 69)).block _ (Array.getElem?_eq_some_iff.1 FX1.out).1).trans FX1.out)
          have hx0 := (gcells2 NI2.out.box).1
          have hz3 := (gcells4 FX2.out).1.2.2.2
          refine hK.out _ _ hz3 (fun hHeld => ?_)
          clear hK K
          try simp only [Act.put, List.getElem_toArray, List.getElem_cons_zero, List.getElem_cons_succ, List.setIfInBounds_toArray, List.set_cons_zero, List.set_cons_succ]
          refine wpAnyH_ready (rs := [7]) (by kernel_rfl) (by simp) ?_
          refine AllReadyH.cons (o := _) rfl (fun K hK => ?_) AllReadyH.nil
          obtain ⟨vs, hw1, hw2⟩ := NI1.out.row
          rw [hlw] at hw1
          refine gstep_app rfl _ _ 63 (by rfl) (nb + 1) 69 i0 zz 1 24 Try.underlying63 hi0 kz0 kz1 kz2 kz3 (by decide) _ q vs (by rfl) (hw1.alloc _) ⟨wc.heap.size, 0, none⟩ 1 1 [.slice AR (plcN (namesF D) (sprL (gpreL x.sels))).length cR] (by rfl) rfl (gone_news _ _ _ rfl) (by intro y hy; simp at hy; subst hy; rfl) (by unfold maxLen; omega) (by omega) (by have := (Array.getElem?_eq_some_iff.1 NI2.out.box).1; omega) ?_
          intro v' w' hown' hgrow hat
          obtain ⟨g', cap', rfl⟩ := ownsRow_succ hown'
          have HO := Lib.hid hown'
          have HG := Lib.hid hgrow
          have HAT := Lib.hid hat
          have HW1 := Lib.hid hw1
          have HW2 := Lib.hid hw2
          have hVn : ∀ b, (Value.slice Av q cv).ownBlock = some b → nb + 1 ≤ b ∧ b < wc.heap.size := fun b e => hw1.lt b e
          have hbx3 := (hgrow.block nb (Array.getElem?_eq_some_iff.1 NI2.out.box).1 (fun e => by have := (hVn nb e.symm).1; omega)).trans NI2.out.box
          have hfx3 := (hgrow.block gx (Array.getElem?_eq_some_iff.1 FX2.out).1 (fun e => by have := HXO.out gx e.symm; omega)).trans FX2.out
          obtain ⟨_, v0, v1⟩ := gcells2 hbx3
          have hz3 := (gcells4 hfx3).1.2.2.2
          clear hw1 hw2 hown' hgrow hat
          refine hK.out _ _ hz3 (fun hHeld => ?_)
          clear hK K
          try simp only [Act.put, List.getElem_toArray, List.getElem_cons_zero, List.getElem_cons_succ, List.setIfInBounds_toArray, List.set_cons_zero, List.set_cons_succ]
          refine wpAnyH_take (i := 8) (oi := _) (v := ?_) rfl (by kernel_rfl) (by kernel_rfl) (by kernel_rfl) (fun _ _ _ h => h) (Or.inl ⟨by rfl, ?_⟩) (by first | assumption | trivial) ?_
          rotate_left
          · (intro w hSw; (try dsimp only at hSw); go_simp; try with_reducible rfl)
          try simp only [Act.put, List.getElem_toArray, List.getElem_cons_zero, List.getElem_cons_succ, List.setIfInBounds_toArray, List.set_cons_zero, List.set_cons_succ]
          refine wpAnyH_ready (rs := [9]) (by kernel_rfl) (by simp) ?_
          refine AllReadyH.cons (o := _) rfl (fun K hK => ?_) AllReadyH.nil
          go_simp
          refine hK.out _ _ ((World.cell?_of_block (a := ⟨gx, 3, none⟩) (Below.heap_setCell _ _ _ _ (by show gx ≠ nb; omega))).trans hz3) (fun hHeld => ?_)
          clear hK K
          try simp only [Act.put, List.getElem_toArray, List.getElem_cons_zero, List.getElem_cons_succ, List.setIfInBounds_toArray, List.set_cons_zero, List.set_cons_succ]
          refine wpAnyH_done (by kernel_rfl) ?_ _
          go_wp2_with fail
          go_roundg g
          case measure => omega
          case rel =>
            refine ⟨q + 1, by omega, by go_num, Asd.intro ⟨.slice (some ⟨g', 0, none⟩) (q + 1) cap', ?_⟩⟩
            rw [HWT.out]
            refine NetI.push (W := wc) (ws := (waysF D).take q) NI1.out (by rw [hlw]; exact HW1.out) HW2.out hcR (HIR.out.keep fun b hb => ⟨⟨by omega, hb.2, fun e => by have := HWD.out b e; omega⟩, rfl⟩) HG.out (by rw [hlw]; exact HO.out) rfl ?_
            rcases HAT.out with e | e
            · exact .inl e.symm
            · exact .inr (by simpa [Value.ownBlock] using e)
        refine AllReadyH.cons (o := _) rfl (fun K hK => ?_) AllReadyH.nil
        go_simp
        have NI2 := Lib.hid (NI1.out.next (gnew wc (.cells #[.slice AR (plcN (namesF D) (sprL (gpreL x.sels))).length cR] 69)))
        have FX2 := Lib.hid (((gnew wc (.cells #[.slice AR (plcN (namesF D) (sprL (gpreL x.sels))).length cR] 69)).block _ (Array.getElem?_eq_some_iff.1 FX1.out).1).trans FX1.out)
        have hx0 := (gcells2 NI2.out.box).1
        have hz3 := (gcells4 FX2.out).1.2.2.2
        refine hK.out _ _ hz3 (fun hHeld => ?_)
        clear hK K
        try simp only [Act.put, List.getElem_toArray, List.getElem_cons_zero, List.getElem_cons_succ, List.setIfInBounds_toArray, List.set_cons_zero, List.set_cons_succ]
        refine wpAnyH_ready (rs := [1]) (by kernel_rfl) (by simp) ?_
        refine AllReadyH.cons (o := _) rfl (fun K hK => ?_) AllReadyH.nil
        go_simp
        refine hK.out _ _ hHeld (fun hHeld => ?_)
        clear hK K
        try simp only [Act.put, List.getElem_toArray, List.getElem_cons_zero, List.getElem_cons_succ, List.setIfInBounds_toArray, List.set_cons_zero, List.set_cons_succ]
        refine wpAnyH_ready (rs := [7]) (by kernel_rfl) (by simp) ?_
        refine AllReadyH.cons (o := _) rfl (fun K hK => ?_) AllReadyH.nil
        obtain ⟨vs, hw1, hw2⟩ := NI1.out.row
        rw [hlw] at hw1
        refine gstep_app rfl _ _ 63 (by rfl) (nb + 1) 69 i0 zz 1 24 Try.underlying63 hi0 kz0 kz1 kz2 kz3 (by decide) _ q vs (by rfl) (hw1.alloc _) ⟨wc.heap.size, 0, none⟩ 1 1 [.slice AR (plcN (namesF D) (sprL (gpreL x.sels))).length cR] (by rfl) rfl (gone_news _ _ _ rfl) (by intro y hy; simp at hy; subst hy; rfl) (by unfold maxLen; omega) (by omega) (by have := (Array.getElem?_eq_some_iff.1 NI2.out.box).1; omega) ?_
        intro v' w' hown' hgrow hat
        obtain ⟨g', cap', rfl⟩ := ownsRow_succ hown'
        have HO := Lib.hid hown'
        have HG := Lib.hid hgrow
        have HAT := Lib.hid hat
        have HW1 := Lib.hid hw1
        have HW2 := Lib.hid hw2
        have hVn : ∀ b, (Value.slice Av q cv).ownBlock = some b → nb + 1 ≤ b ∧ b < wc.heap.size := fun b e => hw1.lt b e
        have hbx3 := (hgrow.block nb (Array.getElem?_eq_some_iff.1 NI2.out.box).1 (fun e => by have := (hVn nb e.symm).1; omega)).trans NI2.out.box
        have hfx3 := (hgrow.block gx (Array.getElem?_eq_some_iff.1 FX2.out).1 (fun e => by have := HXO.out gx e.symm; omega)).trans FX2.out
        obtain ⟨_, v0, v1⟩ := gcells2 hbx3
        have hz3 := (gcells4 hfx3).1.2.2.2
        clear hw1 hw2 hown' hgrow hat
        refine hK.out _ _ hz3 (fun hHeld => ?_)
        clear hK K
        try simp only [Act.put, List.getElem_toArray, List.getElem_cons_zero, List.getElem_cons_succ, List.setIfInBounds_toArray, List.set_cons_zero, List.set_cons_succ]
        refine wpAnyH_take (i := 8) (oi := _) (v := ?_) rfl (by kernel_rfl) (by kernel_rfl) (by kernel_rfl) (fun _ _ _ h => h) (Or.inl ⟨by rfl, ?_⟩) (by first | assumption | trivial) ?_
        rotate_left
        · (intro w hSw; (try dsimp only at hSw); go_simp; try with_reducible rfl)
        try simp only [Act.put, List.getElem_toArray, List.getElem_cons_zero, List.getElem_cons_succ, List.setIfInBounds_toArray, List.set_cons_zero, List.set_cons_succ]
        refine wpAnyH_ready (rs := [9]) (by kernel_rfl) (by simp) ?_
        refine AllReadyH.cons (o := _) rfl (fun K hK => ?_) AllReadyH.nil
        go_simp
        refine hK.out _ _ ((World.cell?_of_block (a := ⟨gx, 3, none⟩) (Below.heap_setCell _ _ _ _ (by show gx ≠ nb; omega))).trans hz3) (fun hHeld => ?_)
        clear hK K
        try simp only [Act.put, List.getElem_toArray, List.getElem_cons_zero, List.getElem_cons_succ, List.setIfInBounds_toArray, List.set_cons_zero, List.set_cons_succ]
        refine wpAnyH_done (by kernel_rfl) ?_ _
        go_wp2_with fail
        go_roundg g
        case measure => omega
        case rel =>
          refine ⟨q + 1, by omega, by go_num, Asd.intro ⟨.slice (some ⟨g', 0, none⟩) (q + 1) cap', ?_⟩⟩
          rw [HWT.out]
          refine NetI.push (W := wc) (ws := (waysF D).take q) NI1.out (by rw [hlw]; exact HW1.out) HW2.out hcR (HIR.out.keep fun b hb => ⟨⟨by omega, hb.2, fun e => by have := HWD.out b e; omega⟩, rfl⟩) HG.out (by rw [hlw]; exact HO.out) rfl ?_
          rcases HAT.out with e | e
          · exact .inl e.symm
          · exact .inr (by simpa [Value.ownBlock] using e)
      refine AllReadyH.cons (o := _) rfl (fun K hK => ?_) AllReadyH.nil
      go_simp
      refine hK.out _ _ hHeld (fun hHeld => ?_)
      clear hK K
      try simp only [Act.put, List.getElem_toArray, List.getElem_cons_zero, List.getElem_cons_succ, List.setIfInBounds_toArray, List.set_cons_zero, List.set_cons_succ]
      refine wpAnyH_ready (rs := [1, 2]) (by kernel_rfl) (by simp) ?_
      refine AllReadyH.cons (o := _) rfl (fun K hK => ?_) ?_
      · go_simp
        refine hK.out _ _ hHeld (fun hHeld => ?_)
        clear hK K
        try simp only [Act.put, List.getElem_toArray, List.getElem_cons_zero, List.getElem_cons_succ, List.setIfInBounds_toArray, List.set_cons_zero, List.set_cons_succ]
        refine wpAnyH_ready (rs := [2]) (by kernel_rfl) (by simp) ?_
        refine AllReadyH.cons (o := _) rfl (fun K hK => ?_) AllReadyH.nil
        go_simp
        refine hK.out _ _ hHeld (fun hHeld => ?_)
        clear hK K
        try simp only [Act.put, List.getElem_toArray, List.getElem_cons_zero, List.getElem_cons_succ, List.setIfInBounds_toArray, List.set_cons_zero, List.set_cons_succ]
        refine wpAnyH_ready (rs := [5]) (by kernel_rfl) (by simp) ?_
        refine AllReadyH.cons (o := _) rfl (fun K hK => ?_) AllReadyH.nil
        go_simp
        refine PL.out.mono ?_
        rintro e wc ⟨VR, rfl, hor, hb⟩
        obtain ⟨AR, cR, rfl, hcR, hIR⟩ := ints_own hor
        have NI1 := Lib.hid (NI0.out.next hb)
        have FX1 := Lib.hid ((hb.block _ (Array.getElem?_eq_some_iff.1 FX0.out).1).trans FX0.out)
        have HIR := Lib.hid hIR
        have hsc := hb.size
        clear hor hb hIR
        obtain ⟨⟨x0, x1⟩, _⟩ := gcells2 NI1.out.box
        obtain ⟨⟨z0, z1, z2, z3⟩, _⟩ := gcells4 FX1.out
        go_wp2_with fail
        refine hK.out _ _ z3 (fun hHeld => ?_)
        clear hK K
        try simp only [Act.put, List.getElem_toArray, List.getElem_cons_zero, List.getElem_cons_succ, List.setIfInBounds_toArray, List.set_cons_zero, List.set_cons_succ]
        refine wpAnyH_ready (rs := [6]) (by kernel_rfl) (by simp) ?_
        refine AllReadyH.cons (o := _) rfl (fun K hK => ?_) AllReadyH.nil
        go_simp
        have NI2 := Lib.hid (NI1.out.next (gnew wc (.cells #[.slice AR (plcN (namesF D) (sprL (gpreL x.sels))).length cR] 69)))
        have FX2 := Lib.hid (((gnew wc (.cells #[.slice AR (plcN (namesF D) (sprL (gpreL x.sels))).length cR] 69)).block _ (Array.getElem?_eq_some_iff.1 FX1.out).1).trans FX1.out)
        have hx0 := (gcells2 NI2.out.box).1
        have hz3 := (gcells4 FX2.out).1.2.2.2
        refine hK.out _ _ hz3 (fun hHeld => ?_)
        clear hK K
        try simp only [Act.put, List.getElem_toArray, List.getElem_cons_zero, List.getElem_cons_succ, List.setIfInBounds_toArray, List.set_cons_zero, List.set_cons_succ]
        refine wpAnyH_ready (rs := [7]) (by kernel_rfl) (by simp) ?_
        refine AllReadyH.cons (o := _) rfl (fun K hK => ?_) AllReadyH.nil
        obtain ⟨vs, hw1, hw2⟩ := NI1.out.row
        rw [hlw] at hw1
        refine gstep_app rfl _ _ 63 (by rfl) (nb + 1) 69 i0 zz 1 24 Try.underlying63 hi0 kz0 kz1 kz2 kz3 (by decide) _ q vs (by rfl) (hw1.alloc _) ⟨wc.heap.size, 0, none⟩ 1 1 [.slice AR (plcN (namesF D) (sprL (gpreL x.sels))).length cR] (by rfl) rfl (gone_news _ _ _ rfl) (by intro y hy; simp at hy; subst hy; rfl) (by unfold maxLen; omega) (by omega) (by have := (Array.getElem?_eq_some_iff.1 NI2.out.box).1; omega) ?_
        intro v' w' hown' hgrow hat
        obtain ⟨g', cap', rfl⟩ := ownsRow_succ hown'
        have HO := Lib.hid hown'
        have HG := Lib.hid hgrow
        have HAT := Lib.hid hat
        have HW1 := Lib.hid hw1
        have HW2 := Lib.hid hw2
        have hVn : ∀ b, (Value.slice Av q cv).ownBlock = some b → nb + 1 ≤ b ∧ b < wc.heap.size := fun b e => hw1.lt b e
        have hbx3 := (hgrow.block nb (Array.getElem?_eq_some_iff.1 NI2.out.box).1 (fun e => by have := (hVn nb e.symm).1; omega)).trans NI2.out.box
        have hfx3 := (hgrow.block gx (Array.getElem?_eq_some_iff.1 FX2.out).1 (fun e => by have := HXO.out gx e.symm; omega)).trans FX2.out
        obtain ⟨_, v0, v1⟩ := gcells2 hbx3
        have hz3 := (gcells4 hfx3).1.2.2.2
        clear hw1 hw2 hown' hgrow hat
        refine hK.out _ _ hz3 (fun hHeld => ?_)
        clear hK K
        try simp only [Act.put, List.getElem_toArray, List.getElem_cons_zero, List.getElem_cons_succ, List.setIfInBounds_toArray, List.set_cons_zero, List.set_cons_succ]
        refine wpAnyH_take (i := 8) (oi := _) (v := ?_) rfl (by kernel_rfl) (by kernel_rfl) (by kernel_rfl) (fun _ _ _ h => h) (Or.inl ⟨by rfl, ?_⟩) (by first | assumption | trivial) ?_
        rotate_left
        · (intro w hSw; (try dsimp only at hSw); go_simp; try with_reducible rfl)
        try simp only [Act.put, List.getElem_toArray, List.getElem_cons_zero, List.getElem_cons_succ, List.setIfInBounds_toArray, List.set_cons_zero, List.set_cons_succ]
        refine wpAnyH_ready (rs := [9]) (by kernel_rfl) (by simp) ?_
        refine AllReadyH.cons (o := _) rfl (fun K hK => ?_) AllReadyH.nil
        go_simp
        refine hK.out _ _ ((World.cell?_of_block (a := ⟨gx, 3, none⟩) (Below.heap_setCell _ _ _ _ (by show gx ≠ nb; omega))).trans hz3) (fun hHeld => ?_)
        clear hK K
        try simp only [Act.put, List.getElem_toArray, List.getElem_cons_zero, List.getElem_cons_succ, List.setIfInBounds_toArray, List.set_cons_zero, List.set_cons_succ]
        refine wpAnyH_done (by kernel_rfl) ?_ _
        go_wp2_with fail
        go_roundg g
        case measure => omega
        case rel =>
          refine ⟨q + 1, by omega, by go_num, Asd.intro ⟨.slice (some ⟨g', 0, none⟩) (q + 1) cap', ?_⟩⟩
          rw [HWT.out]
          refine NetI.push (W := wc) (ws := (waysF D).take q) NI1.out (by rw [hlw]; exact HW1.out) HW2.out hcR (HIR.out.keep fun b hb => ⟨⟨by omega, hb.2, fun e => by have := HWD.out b e; omega⟩, rfl⟩) HG.out (by rw [hlw]; exact HO.out) rfl ?_
          rcases HAT.out with e | e
          · exact .inl e.symm
          · exact .inr (by simpa [Value.ownBlock] using e)
      refine AllReadyH.cons (o := _) rfl (fun K hK => ?_) AllReadyH.nil
      go_simp
      refine hK.out _ _ hHeld (fun hHeld => ?_)
      clear hK K
      try simp only [Act.put, List.getElem_toArray, List.getElem_cons_zero, List.getElem_cons_succ, List.setIfInBounds_toArray, List.set_cons_zero, List.set_cons_succ]
      refine wpAnyH_ready (rs := [1, 5]) (by kernel_rfl) (by simp) ?_
      refine AllReadyH.cons (o := _) rfl (fun K hK => ?_) ?_
      · go_simp
        refine hK.out _ _ hHeld (fun hHeld => ?_)
        clear hK K
        try simp only [Act.put, List.getElem_toArray, List.getElem_cons_zero, List.getElem_cons_succ, List.setIfInBounds_toArray, List.set_cons_zero, List.set_cons_succ]
        refine wpAnyH_ready (rs := [5]) (by kernel_rfl) (by simp) ?_
        refine AllReadyH.cons (o := _) rfl (fun K hK => ?_) AllReadyH.nil
        go_simp
        refine PL.out.mono ?_
        rintro e wc ⟨VR, rfl, hor, hb⟩
        obtain ⟨AR, cR, rfl, hcR, hIR⟩ := ints_own hor
        have NI1 := Lib.hid (NI0.out.next hb)
        have FX1 := Lib.hid ((hb.block _ (Array.getElem?_eq_some_iff.1 FX0.out).1).trans FX0.out)
        have HIR := Lib.hid hIR
        have hsc := hb.size
        clear hor hb hIR
        obtain ⟨⟨x0, x1⟩, _⟩ := gcells2 NI1.out.box
        obtain ⟨⟨z0, z1, z2, z3⟩, _⟩ := gcells4 FX1.out
        go_wp2_with fail
        refine hK.out _ _ z3 (fun hHeld => ?_)
        clear hK K
        try simp only [Act.put, List.getElem_toArray, List.getElem_cons_zero, List.getElem_cons_succ, List.setIfInBounds_toArray, List.set_cons_zero, List.set_cons_succ]
        refine wpAnyH_ready (rs := [6]) (by kernel_rfl) (by simp) ?_
        refine AllReadyH.cons (o := _) rfl (fun K hK => ?_) AllReadyH.nil
        go_simp
        have NI2 := Lib.hid (NI1.out.next (gnew wc (.cells #[.slice AR (plcN (namesF D) (sprL (gpreL x.sels))).length cR] 69)))
        have FX2 := Lib.hid (((gnew wc (.cells #[.slice AR (plcN (namesF D) (sprL (gpreL x.sels))).length cR] 69)).block _ (Array.getElem?_eq_some_iff.1 FX1.out).1).trans FX1.out)
        have hx0 := (gcells2 NI2.out.box).1
        have hz3 := (gcells4 FX2.out).1.2.2.2
        refine hK.out _ _ hz3 (fun hHeld => ?_)
        clear hK K
        try simp only [Act.put, List.getElem_toArray, List.getElem_cons_zero, List.getElem_cons_succ, List.setIfInBounds_toArray, List.set_cons_zero, List.set_cons_succ]
        refine wpAnyH_ready (rs := [7]) (by kernel_rfl) (by simp) ?_
        refine AllReadyH.cons (o := _) rfl (fun K hK => ?_) AllReadyH.nil
        obtain ⟨vs, hw1, hw2⟩ := NI1.out.row
        rw [hlw] at hw1
        refine gstep_app rfl _ _ 63 (by rfl) (nb + 1) 69 i0 zz 1 24 Try.underlying63 hi0 kz0 kz1 kz2 kz3 (by decide) _ q vs (by rfl) (hw1.alloc _) ⟨wc.heap.size, 0, none⟩ 1 1 [.slice AR (plcN (namesF D) (sprL (gpreL x.sels))).length cR] (by rfl) rfl (gone_news _ _ _ rfl) (by intro y hy; simp at hy; subst hy; rfl) (by unfold maxLen; omega) (by omega) (by have := (Array.getElem?_eq_some_iff.1 NI2.out.box).1; omega) ?_
        intro v' w' hown' hgrow hat
        obtain ⟨g', cap', rfl⟩ := ownsRow_succ hown'
        have HO := Lib.hid hown'
        have HG := Lib.hid hgrow
        have HAT := Lib.hid hat
        have HW1 := Lib.hid hw1
        have HW2 := Lib.hid hw2
        have hVn : ∀ b, (Value.slice Av q cv).ownBlock = some b → nb + 1 ≤ b ∧ b < wc.heap.size := fun b e => hw1.lt b e
        have hbx3 := (hgrow.block nb (Array.getElem?_eq_some_iff.1 NI2.out.box).1 (fun e => by have := (hVn nb e.symm).1; omega)).trans NI2.out.box
        have hfx3 := (hgrow.block gx (Array.getElem?_eq_some_iff.1 FX2.out).1 (fun e => by have := HXO.out gx e.symm; omega)).trans FX2.out
        obtain ⟨_, v0, v1⟩ := gcells2 hbx3
        have hz3 := (gcells4 hfx3).1.2.2.2
        clear hw1 hw2 hown' hgrow hat
        refine hK.out _ _ hz3 (fun hHeld => ?_)
        clear hK K
        try simp only [Act.put, List.getElem_toArray, List.getElem_cons_zero, List.getElem_cons_succ, List.setIfInBounds_toArray, List.set_cons_zero, List.set_cons_succ]
        refine wpAnyH_take (i := 8) (oi := _) (v := ?_) rfl (by kernel_rfl) (by kernel_rfl) (by kernel_rfl) (fun _ _ _ h => h) (Or.inl ⟨by rfl, ?_⟩) (by first | assumption | trivial) ?_
        rotate_left
        · (intro w hSw; (try dsimp only at hSw); go_simp; try with_reducible rfl)
        try simp only [Act.put, List.getElem_toArray, List.getElem_cons_zero, List.getElem_cons_succ, List.setIfInBounds_toArray, List.set_cons_zero, List.set_cons_succ]
        refine wpAnyH_ready (rs := [9]) (by kernel_rfl) (by simp) ?_
        refine AllReadyH.cons (o := _) rfl (fun K hK => ?_) AllReadyH.nil
        go_simp
        refine hK.out _ _ ((World.cell?_of_block (a := ⟨gx, 3, none⟩) (Below.heap_setCell _ _ _ _ (by show gx ≠ nb; omega))).trans hz3) (fun hHeld => ?_)
        clear hK K
        try simp only [Act.put, List.getElem_toArray, List.getElem_cons_zero, List.getElem_cons_succ, List.setIfInBounds_toArray, List.set_cons_zero, List.set_cons_succ]
        refine wpAnyH_done (by kernel_rfl) ?_ _
        go_wp2_with fail
        go_roundg g
        case measure => omega
        case rel =>
          refine ⟨q + 1, by omega, by go_num, Asd.intro ⟨.slice (some ⟨g', 0, none⟩) (q + 1) cap', ?_⟩⟩
          rw [HWT.out]
          refine NetI.push (W := wc) (ws := (waysF D).take q) NI1.out (by rw [hlw]; exact HW1.out) HW2.out hcR (HIR.out.keep fun b hb => ⟨⟨by omega, hb.2, fun e => by have := HWD.out b e; omega⟩, rfl⟩) HG.out (by rw [hlw]; exact HO.out) rfl ?_
          rcases HAT.out with e | e
          · exact .inl e.symm
          · exact .inr (by simpa [Value.ownBlock] using e)
      refine AllReadyH.cons (o := _) rfl (fun K hK => ?_) AllReadyH.nil
      go_simp
      refine PL.out.mono ?_
      rintro e wc ⟨VR, rfl, hor, hb⟩
      obtain ⟨AR, cR, rfl, hcR, hIR⟩ := ints_own hor
      have NI1 := Lib.hid (NI0.out.next hb)
      have FX1 := Lib.hid ((hb.block _ (Array.getElem?_eq_some_iff.1 FX0.out).1).trans FX0.out)
      have HIR := Lib.hid hIR
      have hsc := hb.size
      clear hor hb hIR
      obtain ⟨⟨x0, x1⟩, _⟩ := gcells2 NI1.out.box
      obtain ⟨⟨z0, z1, z2, z3⟩, _⟩ := gcells4 FX1.out
      go_wp2_with fail
      refine hK.out _ _ z3 (fun hHeld => ?_)
      clear hK K
      try simp only [Act.put, List.getElem_toArray, List.getElem_cons_zero, List.getElem_cons_succ, List.setIfInBounds_toArray, List.set_cons_zero, List.set_cons_succ]
      refine wpAnyH_ready (rs := [1, 6]) (by kernel_rfl) (by simp) ?_
      refine AllReadyH.cons (o := _) rfl (fun K hK => ?_) ?_
      · go_simp
        refine hK.out _ _ hHeld (fun hHeld => ?_)
        clear hK K
        try simp only [Act.put, List.getElem_toArray, List.getElem_cons_zero, List.getElem_cons_succ, List.setIfInBounds_toArray, List.set_cons_zero, List.set_cons_succ]
        refine wpAnyH_ready (rs := [6]) (by kernel_rfl) (by simp) ?_
        refine AllReadyH.cons (o := _) rfl (fun K hK => ?_) AllReadyH.nil
        go_simp
        have NI2 := Lib.hid (NI1.out.next (gnew wc (.cells #[.slice AR (plcN (namesF D) (sprL (gpreL x.sels))).length cR] 69)))
        have FX2 := Lib.hid (((gnew wc (.cells #[.slice AR (plcN (namesF D) (sprL (gpreL x.sels))).length cR] 69)).block _ (Array.getElem?_eq_some_iff.1 FX1.out).1).trans FX1.out)
        have hx0 := (gcells2 NI2.out.box).1
        have hz3 := (gcells4 FX2.out).1.2.2.2
        refine hK.out _ _ hz3 (fun hHeld => ?_)
        clear hK K
        try simp only [Act.put, List.getElem_toArray, List.getElem_cons_zero, List.getElem_cons_succ, List.setIfInBounds_toArray, List.set_cons_zero, List.set_cons_succ]
        refine wpAnyH_ready (rs := [7]) (by kernel_rfl) (by simp) ?_
        refine AllReadyH.cons (o := _) rfl (fun K hK => ?_) AllReadyH.nil
        obtain ⟨vs, hw1, hw2⟩ := NI1.out.row
        rw [hlw] at hw1
        refine gstep_app rfl _ _ 63 (by rfl) (nb + 1) 69 i0 zz 1 24 Try.underlying63 hi0 kz0 kz1 kz2 kz3 (by decide) _ q vs (by rfl) (hw1.alloc _) ⟨wc.heap.size, 0, none⟩ 1 1 [.slice AR (plcN (namesF D) (sprL (gpreL x.sels))).length cR] (by rfl) rfl (gone_news _ _ _ rfl) (by intro y hy; simp at hy; subst hy; rfl) (by unfold maxLen; omega) (by omega) (by have := (Array.getElem?_eq_some_iff.1 NI2.out.box).1; omega) ?_
        intro v' w' hown' hgrow hat
        obtain ⟨g', cap', rfl⟩ := ownsRow_succ hown'
        have HO := Lib.hid hown'
        have HG := Lib.hid hgrow
        have HAT := Lib.hid hat
        have HW1 := Lib.hid hw1
        have HW2 := Lib.hid hw2
        have hVn : ∀ b, (Value.slice Av q cv).ownBlock = some b → nb + 1 ≤ b ∧ b < wc.heap.size := fun b e => hw1.lt b e
        have hbx3 := (hgrow.block nb (Array.getElem?_eq_some_iff.1 NI2.out.box).1 (fun e => by have := (hVn nb e.symm).1; omega)).trans NI2.out.box
        have hfx3 := (hgrow.block gx (Array.getElem?_eq_some_iff.1 FX2.out).1 (fun e => by have := HXO.out gx e.symm; omega)).trans FX2.out
        obtain ⟨_, v0, v1⟩ := gcells2 hbx3
        have hz3 := (gcells4 hfx3).1.2.2.2
        clear hw1 hw2 hown' hgrow hat
        refine hK.out _ _ hz3 (fun hHeld => ?_)
        clear hK K
        try simp only [Act.put, List.getElem_toArray, List.getElem_cons_zero, List.getElem_cons_succ, List.setIfInBounds_toArray, List.set_cons_zero, List.set_cons_succ]
        refine wpAnyH_take (i := 8) (oi := _) (v := ?_) rfl (by kernel_rfl) (by kernel_rfl) (by kernel_rfl) (fun _ _ _ h => h) (Or.inl ⟨by rfl, ?_⟩) (by first | assumption | trivial) ?_
        rotate_left
        · (intro w hSw; (try dsimp only at hSw); go_simp; try with_reducible rfl)
        try simp only [Act.put, List.getElem_toArray, List.getElem_cons_zero, List.getElem_cons_succ, List.setIfInBounds_toArray, List.set_cons_zero, List.set_cons_succ]
        refine wpAnyH_ready (rs := [9]) (by kernel_rfl) (by simp) ?_
        refine AllReadyH.cons (o := _) rfl (fun K hK => ?_) AllReadyH.nil
        go_simp
        refine hK.out _ _ ((World.cell?_of_block (a := ⟨gx, 3, none⟩) (Below.heap_setCell _ _ _ _ (by show gx ≠ nb; omega))).trans hz3) (fun hHeld => ?_)
        clear hK K
        try simp only [Act.put, List.getElem_toArray, List.getElem_cons_zero, List.getElem_cons_succ, List.setIfInBounds_toArray, List.set_cons_zero, List.set_cons_succ]
        refine wpAnyH_done (by kernel_rfl) ?_ _
        go_wp2_with fail
        go_roundg g
        case measure => omega
        case rel =>
          refine ⟨q + 1, by omega, by go_num, Asd.intro ⟨.slice (some ⟨g', 0, none⟩) (q + 1) cap', ?_⟩⟩
          rw [HWT.out]
          refine NetI.push (W := wc) (ws := (waysF D).take q) NI1.out (by rw [hlw]; exact HW1.out) HW2.out hcR (HIR.out.keep fun b hb => ⟨⟨by omega, hb.2, fun e => by have := HWD.out b e; omega⟩, rfl⟩) HG.out (by rw [hlw]; exact HO.out) rfl ?_
          rcases HAT.out with e | e
          · exact .inl e.symm
          · exact .inr (by simpa [Value.ownBlock] using e)
      refine AllReadyH.cons (o := _) rfl (fun K hK => ?_) AllReadyH.nil
      go_simp
      have NI2 := Lib.hid (NI1.out.next (gnew wc (.cells #[.slice AR (plcN (namesF D) (sprL (gpreL x.sels))).length cR] 69)))
      have FX2 := Lib.hid (((gnew wc (.cells #[.slice AR (plcN (namesF D) (sprL (gpreL x.sels))).length cR] 69)).block _ (Array.getElem?_eq_some_iff.1 FX1.out).1).trans FX1.out)
      have hx0 := (gcells2 NI2.out.box).1
      have hz3 := (gcells4 FX2.out).1.2.2.2
      refine hK.out _ _ hz3 (fun hHeld => ?_)
      clear hK K
      try simp only [Act.put, List.getElem_toArray, List.getElem_cons_zero, List.getElem_cons_succ, List.setIfInBounds_toArray, List.set_cons_zero, List.set_cons_succ]
      refine wpAnyH_ready (rs := [1]) (by kernel_rfl) (by simp) ?_
      refine AllReadyH.cons (o := _) rfl (fun K hK => ?_) AllReadyH.nil
      go_simp
      refine hK.out _ _ hHeld (fun hHeld => ?_)
      clear hK K
      try simp only [Act.put, List.getElem_toArray, List.getElem_cons_zero, List.getElem_cons_succ, List.setIfInBounds_toArray, List.set_cons_zero, List.set_cons_succ]
      refine wpAnyH_ready (rs := [7]) (by kernel_rfl) (by simp) ?_
      refine AllReadyH.cons (o := _) rfl (fun K hK => ?_) AllReadyH.nil
      obtain ⟨vs, hw1, hw2⟩ := NI1.out.row
      rw [hlw] at hw1
      refine gstep_app rfl _ _ 63 (by rfl) (nb + 1) 69 i0 zz 1 24 Try.underlying63 hi0 kz0 kz1 kz2 kz3 (by decide) _ q vs (by rfl) (hw1.alloc _) ⟨wc.heap.size, 0, none⟩ 1 1 [.slice AR (plcN (namesF D) (sprL (gpreL x.sels))).length cR] (by rfl) rfl (gone_news _ _ _ rfl) (by intro y hy; simp at hy; subst hy; rfl) (by unfold maxLen; omega) (by omega) (by have := (Array.getElem?_eq_some_iff.1 NI2.out.box).1; omega) ?_
      intro v' w' hown' hgrow hat
      obtain ⟨g', cap', rfl⟩ := ownsRow_succ hown'
      have HO := Lib.hid hown'
      have HG := Lib.hid hgrow
      have HAT := Lib.hid hat
      have HW1 := Lib.hid hw1
      have HW2 := Lib.hid hw2
      have hVn : ∀ b, (Value.slice Av q cv).ownBlock = some b → nb + 1 ≤ b ∧ b < wc.heap.size := fun b e => hw1.lt b e
      have hbx3 := (hgrow.block nb (Array.getElem?_eq_some_iff.1 NI2.out.box).1 (fun e => by have := (hVn nb e.symm).1; omega)).trans NI2.out.box
      have hfx3 := (hgrow.block gx (Array.getElem?_eq_some_iff.1 FX2.out).1 (fun e => by have := HXO.out gx e.symm; omega)).trans FX2.out
      obtain ⟨_, v0, v1⟩ := gcells2 hbx3
      have hz3 := (gcells4 hfx3).1.2.2.2
      clear hw1 hw2 hown' hgrow hat
      refine hK.out _ _ hz3 (fun hHeld => ?_)
      clear hK K
      try simp only [Act.put, List.getElem_toArray, List.getElem_cons_zero, List.getElem_cons_succ, List.setIfInBounds_toArray, List.set_cons_zero, List.set_cons_succ]
      refine wpAnyH_take (i := 8) (oi := _) (v := ?_) rfl (by kernel_rfl) (by kernel_rfl) (by kernel_rfl) (fun _ _ _ h => h) (Or.inl ⟨by rfl, ?_⟩) (by first | assumption | trivial) ?_
      rotate_left
      · (intro w hSw; (try dsimp only at hSw); go_simp; try with_reducible rfl)
      try simp only [Act.put, List.getElem_toArray, List.getElem_cons_zero, List.getElem_cons_succ, List.setIfInBounds_toArray, List.set_cons_zero, List.set_cons_succ]
      refine wpAnyH_ready (rs := [9]) (by kernel_rfl) (by simp) ?_
      refine AllReadyH.cons (o := _) rfl (fun K hK => ?_) AllReadyH.nil
      go_simp
      refine hK.out _ _ ((World.cell?_of_block (a := ⟨gx, 3, none⟩) (Below.heap_setCell _ _ _ _ (by show gx ≠ nb; omega))).trans hz3) (fun hHeld => ?_)
      clear hK K
      try simp only [Act.put, List.getElem_toArray, List.getElem_cons_zero, List.getElem_cons_succ, List.setIfInBounds_toArray, List.set_cons_zero, List.set_cons_succ]
      refine wpAnyH_done (by kernel_rfl) ?_ _
      go_wp2_with fail
      go_roundg g
      case measure => omega
      case rel =>
        refine ⟨q + 1, by omega, by go_num, Asd.intro ⟨.slice (some ⟨g', 0, none⟩) (q + 1) cap', ?_⟩⟩
        rw [HWT.out]
        refine NetI.push (W := wc) (ws := (waysF D).take q) NI1.out (by rw [hlw]; exact HW1.out) HW2.out hcR (HIR.out.keep fun b hb => ⟨⟨by omega, hb.2, fun e => by have := HWD.out b e; omega⟩, rfl⟩) HG.out (by rw [hlw]; exact HO.out) rfl ?_
        rcases HAT.out with e | e
        · exact .inl e.symm
        · exact .inr (by simpa [Value.ownBlock] using e)
end Go.Proofs.Ytohkimibphleaaa
