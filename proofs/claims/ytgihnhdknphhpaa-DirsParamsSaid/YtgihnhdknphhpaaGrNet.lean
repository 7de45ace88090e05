/- graph.netOf. (gen_grnet.py wrote it.) -/
import Derived.Test.YtgihnhdknphhpaaGrFst
import Derived.Test.YtgihnhdknphhpaaGrCap
namespace Go.Proofs.Ytgihnhdknphhpaa
open Go.RowKit

/-- A document whose slices of selections hold their length. -/
def DocAt (w : World) (B : Nat) (D : DocT) (c0 c1 : Value) : Prop := TS w (fun b => b < B) (encDoc D) [c0, c1] ∧ CapD w (fun b => b < B) D c0 c1
theorem DocAt.frag {w wx : World} {B : Nat} {D : DocT} {c0 : Value} {Af : Option Addr} {n kf : Nat} {q : Nat} {x : FragT} (h : DocAt w B D c0 (.slice Af n kf)) (hb : Below B w wx) (hx : D.frags[q]? = some x) :
    ∃ b p Ad kd As ks, Af = some ⟨b, p, none⟩ ∧ b < B ∧ (wx.cell? ⟨b, p + q * 4, none⟩ = some (.string x.name) ∧ wx.cell? ⟨b, p + q * 4 + 1, none⟩ = some (.string x.on) ∧ wx.cell? ⟨b, p + q * 4 + 2, none⟩ = some (.slice Ad x.dirs.length kd) ∧ wx.cell? ⟨b, p + q * 4 + 3, none⟩ = some (.slice As x.sels.len ks)) ∧
      (x.name.size ≤ 9223372036854775807 ∧ x.on.size ≤ 9223372036854775807) ∧ (x.dirs.length ≤ 9223372036854775807 ∧ RowT wx (fun b => b < B) (rowOf encD x.dirs) Ad) ∧ x.sels.len ≤ ks ∧ SelsAt wx B x.sels As ∧ x.sels.len ≤ 9223372036854775807 := by
  obtain ⟨Ao, ko, Af', kf', rfl, e, _, _, rf⟩ := doc_cells h.1
  injection e with e1 e2 e3
  subst e1 e2 e3
  obtain ⟨b, p, Ad, kd, As, ks, rfl, hlt, ⟨f0, f1, f2, f3⟩, hn, ⟨ld, rd⟩, ls, rs⟩ := frag_at rf hx
  obtain ⟨k1, k2⟩ := h.2.2 _ _ rfl q x.sels b p As ks (by show Option.map _ (D.frags[q]?) = _; rw [hx]; rfl) rfl f3 rs
  have hc := fun i => hb.cell (p := ⟨b, i, none⟩) hlt
  exact ⟨b, p, Ad, kd, As, ks, rfl, hlt, ⟨(hc _).trans f0, (hc _).trans f1, (hc _).trans f2, (hc _).trans f3⟩, hn, ⟨ld, RowT.below hb rd⟩, k1, SelsAt.below ⟨rs, k2⟩ hb, ls⟩
theorem DocAt.below {w w' : World} {B : Nat} {D : DocT} {c0 c1 : Value} (h : DocAt w B D c0 c1) (hb : Below B w w') : DocAt w' B D c0 c1 := by
  obtain ⟨Ao, ko, Af, kf, rfl, rfl, ⟨_, ro⟩, _, rf⟩ := doc_cells h.1
  have hk : ∀ {l : SelL} {As : Option Addr}, RowT w' (fun b => b < B) (encSL l) As → RowT w (fun b => b < B) (encSL l) As := fun hr => RowT.keep (fun b hl => ⟨hl, (hb.block b hl).symm⟩) _ _ hr
  have hcap : ∀ {l : SelL} {As : Option Addr}, CapL w (fun b => b < B) l As → CapL w' (fun b => b < B) l As := fun hc => CapL.keep (fun b hl => ⟨hl, hb.block b hl⟩) _ _ hc
  refine ⟨TS.keep (fun b hl => ⟨hl, hb.block b hl⟩) _ _ h.1, fun A k e q l b p As ks hg hA hc hR => ?_, fun A k e q l b p As ks hg hA hc hR => ?_⟩
  · obtain ⟨x, hx, _⟩ := Option.map_eq_some_iff.1 hg
    injection e with e1 e2 e3
    subst e1 e3 hA
    obtain ⟨b', p', Av, kv, Ad, kd, As', ks', e, hlt, _⟩ := op_at ro hx
    injection e with e
    injection e with e1 e2
    subst e1 e2
    obtain ⟨g1, g2⟩ := h.2.1 _ _ rfl q l b p As ks hg rfl ((hb.cell (p := ⟨b, p + q * 5 + 4, none⟩) hlt).symm.trans hc) (hk hR)
    exact ⟨g1, hcap g2⟩
  · obtain ⟨x, hx, _⟩ := Option.map_eq_some_iff.1 hg
    injection e with e1 e2 e3
    subst e1 e3 hA
    obtain ⟨b', p', Ad, kd, As', ks', e, hlt, _⟩ := frag_at rf hx
    injection e with e
    injection e with e1 e2
    subst e1 e2
    obtain ⟨g1, g2⟩ := h.2.2 _ _ rfl q l b p As ks hg rfl ((hb.cell (p := ⟨b, p + q * 4 + 3, none⟩) hlt).symm.trans hc) (hk hR)
    exact ⟨g1, hcap g2⟩
theorem spr_mem {XS : List SelT} {s : ByteArray} (h : s ∈ sprL XS) : ∃ x, x ∈ XS ∧ x.kind = 1 ∧ x.name = s := by
  have key : ∀ (XS : List SelT) (out : List ByteArray), s ∈ XS.foldl addS out → s ∈ out ∨ ∃ x, x ∈ XS ∧ x.kind = 1 ∧ x.name = s := by
    intro XS
    induction XS with
    | nil => exact fun out h => .inl h
    | cons y t ih =>
      intro out h
      rcases ih _ h with h1 | ⟨x, h1, h2⟩
      · unfold addS at h1
        split at h1
        · next hc =>
          rcases List.mem_append.1 h1 with h2 | h2
          · exact .inl h2
          · rw [Bool.and_eq_true] at hc
            exact .inr ⟨y, List.mem_cons_self .., eq_of_beq hc.1, (List.mem_singleton.1 h2).symm⟩
        · exact .inl h1
      · exact .inr ⟨x, List.mem_cons_of_mem _ h1, h2⟩
  rcases key XS [] h with h | h
  · cases h
  · exact h
theorem gpre_sz : ∀ {l : SelL} {x : SelT}, x ∈ gpreL l → x.name.size ≤ szSels l
  | .nil, _, h => by rw [gpreL] at h; cases h
  | .cons (.mk k a n g d o s) t, x, h => by
    rw [gpreL, gpreX, List.cons_append, List.mem_cons, List.mem_append] at h
    rw [szSels, szSel]
    rcases h with rfl | h | h
    · show n.size ≤ _; omega
    · have := gpre_sz h; omega
    · have := gpre_sz h; omega
theorem spr_sz {l : SelL} {s : ByteArray} (h : s ∈ sprL (gpreL l)) : s.size ≤ szSels l := by
  obtain ⟨x, h1, _, rfl⟩ := spr_mem h
  exact gpre_sz h1
theorem frag_sz {D : DocT} {x : FragT} (h : x ∈ D.frags) : szSels x.sels + x.name.size ≤ szDoc D := by
  have h1 := sum_mem (f := szFr) h
  unfold szDoc
  unfold szFr at h1
  show _ ≤ (D.ops.map szOp).sum + (D.frags.map szFr).sum
  have h2 : szSels x.sels + x.name.size ≤ szFr x := by unfold szFr; omega
  have h3 := sum_mem (f := szFr) h
  omega
theorem frags_sz (D : DocT) : D.frags.length * 2 ≤ szDoc D := by
  have := sum_len (f := szFr) (l := D.frags) (k := 2) (fun a _ => by unfold szFr; omega)
  unfold szDoc
  omega
/-- Places in a row. -/
def IntsG (W : World) (P : Nat → Prop) (A : Option Addr) (l : List Nat) : Prop := ∀ (j x : Nat), l[j]? = some x → ∃ b o, A = some ⟨b, o, none⟩ ∧ P b ∧ W.cell? ⟨b, o + j, none⟩ = some (.int .i64 x)
theorem IntsG.keep {W W' : World} {P P' : Nat → Prop} {A : Option Addr} {l : List Nat} (h : IntsG W P A l) (hP : ∀ b, P b → P' b ∧ W'.heap[b]? = W.heap[b]?) : IntsG W' P' A l := fun j x hx => by
  obtain ⟨b, o, e, hb, hc⟩ := h j x hx
  exact ⟨b, o, e, (hP b hb).1, (World.cell?_of_block (a := ⟨b, o + j, none⟩) (hP b hb).2).trans hc⟩
theorem ints_own {W : World} {lo : Nat} {V : Value} {l : List Nat} (h : W.ownsRow lo 3 1 V l.length (l.map fun (q : Nat) => Value.int .i64 q)) : ∃ A c, V = .slice A l.length c ∧ l.length ≤ c ∧ IntsG W (fun b => lo ≤ b ∧ b < W.heap.size) A l := by
  have h0 := h
  obtain ⟨_, h2⟩ := h
  rcases h2 with ⟨rfl, hl⟩ | ⟨g, cap, cur, rfl, hb, hg, hn, _⟩
  · exact ⟨none, 0, by rw [hl], by omega, fun j x hx => by have := (List.getElem?_eq_some_iff.1 hx).1; omega⟩
  · refine ⟨_, cap, rfl, hn, fun j x hx => ⟨g, 0, rfl, ⟨hb, (Array.getElem?_eq_some_iff.1 hg).1⟩, ?_⟩⟩
    have := h0.cells (g := g) rfl j (.int .i64 x) (by rw [List.getElem?_map, hx]; rfl)
    rwa [add_at] at this
/-- Where the fragments lead to. -/
def waysF (D : DocT) : List (List Nat) := D.frags.map fun x => plcN (namesF D) (sprL (gpreL x.sels))
theorem gstep_app {P : Program} {w : World} {ops : Array Oper} {o : Oper} {a : Act} {K : Act → World → Prop} {Q : Exit → Act → World → Prop} {E : Prop} (hgd : o.guard = none) (s x : Operand) (t : TypeId)
    (ho : o.op = .call { callee := .builtin .append, args := #[s, x], argTypes := #[t, t] })
    (base : Nat) (e : TypeId) (i : TypeInfo) (z : Value) (size bytes : Nat) (ht : P.underlying t = some (.slice e)) (hi : P.info? e = some i) (hz : i.zero = some z)
    (hsize : i.size = size) (hby : i.bytes = bytes) (hzs : z.cells.size = size) (hsz : 0 < size)
    (v : Value) (n : Nat) (xs : List Value) (hs : a.eval s = v) (hown : w.ownsRow base e size v n xs)
    (ad : Addr) (m c : Nat) (news : List Value) (hx : a.eval x = .slice (some ad) m c) (hl : news.length = m * size) (hnews : ∀ (j : Nat) u, news[j]? = some u → w.cell? (ad.add j) = some u) (h1 : ∀ u ∈ news, u.oneCell' = true)
    (h63 : n + m ≤ maxLen) (hbytes : (n + m) * bytes ≤ 140737488355328) (hbase : base ≤ w.heap.size)
    (h : ∀ v' w', w'.ownsRow base e size v' (n + m) (xs ++ news) → w.grownBy w' v.ownBlock → (v'.ownBlock = v.ownBlock ∨ v'.ownBlock = some w.heap.size) → K (a.put o.dst v') w') : if Region.wanted o (yielded ops a.tmps) = true then Oper.wp P o a w K Q else E := by
  have hw : Region.wanted o (yielded ops a.tmps) = true := by simp [Region.wanted, hgd]
  rw [if_pos hw]
  obtain ⟨v', w', hr, h2, h3, _, h5⟩ := run_append_own_at (P := P) w base t o.type e i z size bytes ht hi hz hsize hby hzs hsz v n xs hown ad m c news hl hnews h1 h63 hbytes hbase
  unfold Oper.wp execOp
  simp only [ho, resolve, invoke, builtin, Sem.run_bind, Sem.run_pure, Result.andThen_ok, List.map_toArray, List.map_cons, List.map_nil, hs, hx, hr]
  exact h v' w' h2 h3 h5
end Go.Proofs.Ytgihnhdknphhpaa
