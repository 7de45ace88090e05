/- seinekeep.SameTexts over two rows that read alike. -/
import Derived.Test.YtcfdfgbobnocnaaGreatDoorVVarsM
import Derived.Test.YtcfdfgbobnocnaaGreatDoorTNum
import Derived.Deep.AppendLies
import Derived.Laws.EntriesVeiled
import Derived.Test.YtcfdfgbobnocnaaGreatDoorLtM
import Derived.Test.YtcfdfgbobnocnaaGreatDoorVGet
namespace Go.Proofs.YtcfdfgbobnocnaaGreatDoor
open Go.RowKit

theorem info_txtV : (Tryz.prog.info? 9).map (fun i => (i.zero, i.size, i.bytes)) = some (some (.string ⟨#[]⟩), 1, 16) := by kernel_rfl
theorem info_partsV {t : TypeId} {z : Value} {s b : Nat} (h : (Tryz.prog.info? t).map (fun i => (i.zero, i.size, i.bytes)) = some (some z, s, b)) : ∃ i, Tryz.prog.info? t = some i ∧ i.zero = some z ∧ i.size = s ∧ i.bytes = b := by
  cases hi : Tryz.prog.info? t with
  | none => rw [hi] at h; cases h
  | some i => rw [hi] at h; simp at h; exact ⟨i, rfl, h.1, h.2.1, h.2.2⟩
def VisC (v : VT) : Prop := ∀ (c0 c1 c2 c3 c4 : Value) (w : World) (B b : Nat) (V : Value) (out : List ByteArray), B ≤ b → VAt w B v c0 c1 c2 c3 c4 → SeenAt b w V out → out.length + sizeV v ≤ 20000 →
  Calls Tryz.prog 34 #[.agg #[c0, c1, c2, c3, c4], .pointer (some ⟨b + 3, 0, none⟩), .pointer (some ⟨b + 1, 0, none⟩), .pointer (some ⟨b + 4, 0, none⟩)] w fun e w' => e = .returned (.tuple #[]) ∧ ∃ V', SeenAt b w' V' (varsV v out) ∧ Kept3 b w w' V V'
def selfV : VT → List ByteArray
  | .mk k _ s _ _ => if k = 8 then [s] else []
theorem all_self (v : VT) : allV v = selfV v ++ allL v.kids := by
  have h := all_kids v
  obtain ⟨k, n, s, l, m⟩ := v
  exact h
theorem self_len (v : VT) : (selfV v).length ≤ 1 := by
  obtain ⟨k, n, s, l, m⟩ := v
  rw [selfV]
  split <;> simp
/-- The names found behind the value's own and those of the first j within it. -/
def outAt (v : VT) (out : List ByteArray) (j : Nat) : List ByteArray := (allTo v.kids j).foldl addV ((selfV v).foldl addV out)
theorem outAt_all (v : VT) (out : List ByteArray) : outAt v out v.kids.len = varsV v out := by
  unfold outAt varsV
  rw [allTo_all, all_self v, List.foldl_append]
theorem outAt_next {v x : VT} {j : Nat} (h : v.kids.get j = some x) (out : List ByteArray) : outAt v out (j + 1) = varsV x (outAt v out j) := varsL_snoc h _
theorem outAt_room {v x : VT} {j : Nat} (h : v.kids.get j = some x) {out : List ByteArray} (hr : out.length + sizeV v ≤ 20000) : (outAt v out j).length + sizeV x ≤ 20000 := by
  have h1 := allTo_room h
  have h2 := size_kids v
  have h3 := addsV_len (allTo v.kids j) ((selfV v).foldl addV out)
  have h4 := addsV_len (selfV v) out
  have h5 := self_len v
  unfold outAt
  omega
theorem outAt_zero_no {k n : Int} {s : ByteArray} {l : VL} {m : VM} {out : List ByteArray} (h : ¬ k = 8 ∨ hasV out s = true) : outAt (.mk k n s l m) out 0 = out := by
  unfold outAt
  rw [allTo_zero]
  show (selfV (.mk k n s l m)).foldl addV out = out
  rw [selfV]
  rcases h with h | h
  · rw [if_neg h]; rfl
  · split
    · show addV out s = out
      rw [addV, if_pos h]
    · rfl
theorem outAt_zero_yes {n : Int} {s : ByteArray} {l : VL} {m : VM} {out : List ByteArray} (h : hasV out s = false) : outAt (.mk 8 n s l m) out 0 = out ++ [s] := by
  unfold outAt
  rw [allTo_zero]
  show (selfV (.mk 8 n s l m)).foldl addV out = out ++ [s]
  rw [selfV, if_pos rfl]
  show addV out s = out ++ [s]
  rw [addV, if_neg (by rw [h]; decide)]

theorem box_five {w : World} {g : Nat} {c0 c1 c2 c3 c4 : Value} {t : TypeId} (h : w.heap[g]? = some (.cells #[c0, c1, c2, c3, c4] t (0, 0))) : w.cell? ⟨g, 0, none⟩ = some c0 ∧ w.cell? ⟨g, 1, none⟩ = some c1 ∧ w.cell? ⟨g, 2, none⟩ = some c2 ∧ w.cell? ⟨g, 3, none⟩ = some c3 ∧ w.cell? ⟨g, 4, none⟩ = some c4 := by
  refine ⟨?_, ?_, ?_, ?_, ?_⟩ <;> (simp only [World.cell?, h]; rfl)
theorem txt_newV (w : World) (s : ByteArray) (t : TypeId) {g : Nat} (hg : g = w.heap.size) : ∀ (j : Nat) u, [Value.string s][j]? = some u → (w.alloc (.cells #[.string s] t)).cell? ((⟨g, 0, none⟩ : Addr).add j) = some u := by
  subst hg
  intro j u hu
  rw [add_at, Nat.zero_add]
  match j, hu with
  | 0, hu => cases hu; rw [World.cell?_alloc_at _ _ _ _ rfl]; rfl
theorem own_orV {V : Value} {g H n c k h1 : Nat} (e : (Value.slice (some ⟨g, 0, none⟩) n c).ownBlock = some k) (h : V.ownBlock = some g ∨ g = H) (hH : h1 ≤ H) : V.ownBlock = some k ∨ h1 ≤ k := by
  have e' : some g = some k := e
  injection e' with e'
  subst e'
  rcases h with h | h
  · exact .inl h
  · exact .inr (by omega)
theorem vis_in {b B : Nat} {w wc : World} {V Vc : Value} {U : VT} {out out0 : List ByteArray} {c0 c1 c2 c3 c4 : Value} (HW : WithinX U) (hB : B ≤ b) (hv : VAt w B U c0 c1 c2 c3 c4) (hs : SeenAt b w V out) (hc : SeenAt b wc Vc out0 ∧ Kept3 b w wc V Vc) :
    Calls Tryz.prog 35 #[.agg #[c0, c1, c2, c3, c4]] wc fun e w' => ∃ A c, e = .returned (.slice A U.kids.len c) ∧ SeenAt b w' Vc out0 ∧ Kept3 b w w' V Vc ∧ RowN b w' Vc B U.kids A := by
  obtain ⟨hc, hk⟩ := hc
  refine (HW _ _ _ _ _ wc B (by have := hc.low; omega) (VAt.below (hk.below hs (by omega)) _ _ _ _ _ _ hv)).mono ?_
  rintro e w' ⟨A, c, rfl, hr, hb⟩
  exact ⟨A, c, rfl, hc.below hb, hk.trans (Kept3.of_below hb), hr.seen hc hB⟩
theorem vis_go {b B : Nat} {w : World} {V : Value} {x : VT} {out : List ByteArray} {d0 d1 d2 d3 d4 : Value} {o : Obj} (hB : B ≤ b) (hC : VisC x) (hs : SeenAt b w V out) (hv : VAt w B x d0 d1 d2 d3 d4) (hr : out.length + sizeV x ≤ 20000) :
    Calls Tryz.prog 34 #[.agg #[d0, d1, d2, d3, d4], .pointer (some ⟨b + 3, 0, none⟩), .pointer (some ⟨b + 1, 0, none⟩), .pointer (some ⟨b + 4, 0, none⟩)] (w.alloc o) fun e w' => e = .returned (.tuple #[]) ∧ ∃ V', SeenAt b w' V' (varsV x out) ∧ Kept3 b w w' V V' := by
  have hb := (Below.refl w.heap.size w).alloc (Nat.le_refl _) o
  have hl := hs.low
  refine (hC _ _ _ _ _ (w.alloc o) B b V out hB (VAt.below (hb.mono (by omega)) _ _ _ _ _ _ hv) (hs.below hb) hr).mono ?_
  rintro e w' ⟨rfl, V', h1, h2⟩
  exact ⟨rfl, V', h1, (Kept3.of_below hb).trans h2⟩

set_option maxRecDepth 100000 in
set_option maxHeartbeats 4000000 in
theorem vis_step (N : Nat) (hN : N + 1 ≤ 9000) (H : ∀ u, sizeV u ≤ N → VisC u) : ∀ u, sizeV u ≤ N + 1 → VisC u := by
  intro u hu c0 c1 c2 c3 c4 w B b V out hB hv hs hr
  have HS := Lib.hid H
  have hW := within_x u (by omega)
  have hkg := Lib.hid (fun (x : VT) (j : Nat) (h : u.kids.get j = some x) => kids_get_size h)
  have hnx := Lib.hid (fun (x : VT) (j : Nat) (h : u.kids.get j = some x) => outAt_next h out)
  have hrm := Lib.hid (fun (x : VT) (j : Nat) (h : u.kids.get j = some x) => outAt_room h hr)
  have hal := Lib.hid (outAt_all u out)
  have hv0 := Lib.hid hv
  have HB0 := Lib.hid hB
  have hks := Lib.hid (size_kids u)
  have hls := Lib.hid (len_size u.kids)
  have hol : out.length ≤ 20000 := by omega
  obtain ⟨k, n, s, l, m⟩ := u
  have hno := Lib.hid (fun h => outAt_zero_no (k := k) (n := n) (s := s) (l := l) (m := m) (out := out) h)
  have hyes : Hid (k = 8 → hasV out s = false → outAt (.mk k n s l m) out 0 = out ++ [s]) := Lib.hid (fun e h => by subst e; exact outAt_zero_yes h)
  generalize hU : VT.mk k n s l m = U at *
  have hv' := hv
  rw [← hU] at hv'
  unfold VAt at hv'
  obtain ⟨rfl, rfl, rfl, hsl, ⟨A, c, rfl, hl, hL⟩, A', c', rfl, hm, hM⟩ := hv'
  have HW := Lib.hid hW
  have HU := Lib.hid hu
  have hb0 := Lib.hid (fun o => (Below.refl w.heap.size w).alloc (Nat.le_refl _) o)
  have hS0 := Lib.hid (fun o => hs.below (hb0.out o))
  have hlow := hs.low
  have hown := Lib.hid hs.own
  obtain ⟨x, hx⟩ : ∃ x, hasV out s = x := ⟨_, rfl⟩
  have lk := fun o => (hS0.out o).look s (by unfold maxLen; omega)
  rw [hx] at lk
  have d1 : ∀ o, (w.alloc o).cell? ⟨b + 1, 0, none⟩ = some V := fun o => (one_cell (hS0.out o).1).1
  have d3 : ∀ o, (w.alloc o).cell? ⟨b + 3, 0, none⟩ = some (.map (some (b + 2))) := fun o => (one_cell (hS0.out o).2.1).1
  have HS' := Lib.hid hs
  obtain ⟨D, hmD, hD⟩ := hs.2.2.2.2
  have HD := Lib.hid hD
  have HMD := Lib.hid (fun o => hmD.alloc o)
  have HMAX : out.length < maxLen := by unfold maxLen; omega
  obtain ⟨i0, hi, hz0, hz1, hz2⟩ := info_partsV info_txtV
  clear H hB hv hW hL hM hu hU hs hr hD hmD
  have hkey := WideMaps.keyOf_string_mk (P := Tryz.prog) Tryz.underlying9 (s := s) (by unfold maxLen; omega)
  obtain ⟨n8, h8⟩ : ∃ n, (k == 8) = n := ⟨_, rfl⟩
  cases n8
  have hout := Lib.hid (hno.out (.inl (by simpa using h8)))
  go_enter Tryz.func34, Tryz.ntmps34
  go_wp2_with fail
  refine (vis_in HW.out HB0.out hv0.out HS'.out ⟨hout.out.symm ▸ hS0.out _, Kept3.of_below (hb0.out _)⟩).mono ?_
  rotate_left
  cases x
  have hout := Lib.hid (hyes.out (by simpa using h8) hx)
  obtain rfl : k = 8 := by simpa using h8
  clear h8
  go_enter Tryz.func34, Tryz.ntmps34
  go_wp2_with (first
    | (at_mapUpdate; refine wpList_mapUpdate_own _ rfl _ _ _ 75 rfl 9 4 (Maps.string_keyed Tryz.underlying9) Tryz.underlying75 _ (b + 2) out.length D rfl (HMD.out _) HMAX _ _ _ rfl rfl hkey (.lit (.bool true)) [] (plainElem_bool Tryz.underlying4 true) ?_; intro w1 hm1 hg1; have x1 := (hg1.block w.heap.size (by simp) (fun e => by injection e; omega)).trans (heap_alloc_new _ _); obtain ⟨p0, p1, p2, p3, p4⟩ := box_five x1; have y1 := (hg1.block (b + 1) (by simp; omega) (fun e => by injection e; omega)).trans (hS0.out _).1; obtain ⟨q1, q2⟩ := one_cell y1; have HM1 := Lib.hid hm1; have HG1 := Lib.hid hg1; have hs1 := hg1.size; have HR1 := Lib.hid (fun o => ((hS0.out _).2.2.2.1.kept hg1 (.inr (fun e => by have := (hown.out _ e).1; omega))).alloc o); have HX1 := Lib.hid x1; have HY1 := Lib.hid y1; clear hm1 hg1 x1 y1)
    | (at_builtin; refine wpList_append_lies _ rfl _ _ 38 rfl (b + 5) 9 i0 (.string ⟨#[]⟩) 1 16 Tryz.underlying38 hi hz0 hz1 hz2 rfl (by decide) V out.length (out.map .string) rfl (HR1.out _) _ 1 1 [.string s] rfl rfl (txt_newV _ _ _ rfl) (by intro u hu; simp at hu; subst hu; rfl) (by decide) (by unfold maxLen; omega) (by omega) (by simp at hs1; simp; omega) _ rfl ?_; intro g2 cap2 w2 hown2 hg2 hat2 hlt2; have x2 := (hg2.block w.heap.size (by simp at hs1; simp; omega) (fun e => by have := hown.out _ e.symm; omega)).trans ((Below.heap_alloc _ _ _ (by simp at hs1; omega)).trans HX1.out); obtain ⟨r0, r1, r2, r3, r4⟩ := box_five x2; have y2 := (hg2.block (b + 1) (by simp at hs1; simp; omega) (fun e => by have := hown.out _ e.symm; omega)).trans ((Below.heap_alloc _ _ _ (by simp at hs1; omega)).trans HY1.out); obtain ⟨u1, u2⟩ := one_cell y2; have HM := Lib.hid ((hS0.out _).more HD.out HM1.out HG1.out hown2 hg2 (fun k e => own_orV e hat2 (by simp))); clear x2 y2 hown2 hg2 hat2))
  refine (vis_in HW.out HB0.out hv0.out HS'.out ⟨hout.out.symm ▸ HM.out.1, (Kept3.of_below (hb0.out _)).trans HM.out.2⟩).mono ?_

  rotate_left
  have hout := Lib.hid (hno.out (.inr hx))
  obtain rfl : k = 8 := by simpa using h8
  clear h8
  go_enter Tryz.func34, Tryz.ntmps34
  go_wp2_with fail
  refine (vis_in HW.out HB0.out hv0.out HS'.out ⟨hout.out.symm ▸ hS0.out _, Kept3.of_below (hb0.out _)⟩).mono ?_
  rotate_left
  all_goals
    rintro e w3 ⟨A1, c1', rfl, h1, h2, h3⟩
    have H3 := Lib.hid (And.intro h1 (And.intro h2 h3))
    clear h1 h2 h3
    go_wp2_with fail
    go_loopg [28] U.kids.len (fun g i wx => ∃ q : Nat, q + g = U.kids.len ∧ i = .int .i64 q ∧ Aside (∃ Vx, SeenAt b wx Vx (outAt U out q) ∧ Kept3 b w wx V Vx ∧ RowN b wx Vx B U.kids A1))
    case atStart => exact ⟨0, by omega, rfl, vaside ⟨_, H3.out.1, H3.out.2.1, H3.out.2.2⟩⟩
    case round =>
      obtain ⟨q, hq, rfl, HA⟩ := hrel
      obtain ⟨Vx, hsx, hkx, hrx⟩ := HA.out
      have HSX := Lib.hid hsx
      have HKX := Lib.hid hkx
      have HRX := Lib.hid hrx
      clear hsx hkx hrx H3 HA
      cases gk with
      | zero =>
        obtain rfl : q = U.kids.len := by omega
        go_wp2_with fail
        go_end0
        exact ⟨rfl, Vx, by rw [← hal.out]; exact HSX.out, HKX.out⟩
      | succ g =>
        have hqn : q < U.kids.len := by omega
        have hq9 : q < 9000 := by have h1 := hks.out; have h2 := hls.out; have h3 := HU.out; omega
        have hqn' : (q : Int) < (U.kids.len : Int) := by omega
        obtain ⟨y, hy⟩ := VL.get_lt hqn
        have hys := hkg.out y q hy
        have hnx' := Lib.hid (hnx.out y q hy)
        obtain ⟨gb, o, d0, d1, d2, d3, d4, rfl, _, _, _, hblt, hF, hV⟩ := HRX.out q y hy
        have C := Lib.hid (fun o => vis_go (o := o) HB0.out (HS.out y (by have := HU.out; omega)) HSX.out hV (hrm.out y q hy))
        have hpv := fun o => (one_cell ((HSX.out.below ((Below.refl _ _).alloc (Nat.le_refl _) o)).2.2.1)).1
        obtain ⟨yk, yn, ys, yl, ym⟩ := y
        have hV' := hV
        unfold VAt at hV'
        obtain ⟨rfl, rfl, rfl, _, ⟨A3, c3', rfl, _, _⟩, A4, c4', rfl, _, _⟩ := hV'
        obtain ⟨f0, f1, f2, f3, f4⟩ := hF
        clear hV hy hys
        go_wp2_with fail
        refine (C.out _).mono ?_
        rintro e w4 ⟨rfl, V4, h1, h2⟩
        have H4 := Lib.hid (And.intro h1 h2)
        clear h1 h2 C f0 f1 f2 f3 f4 hpv
        go_wp2_with fail
        go_roundg g
        case measure => omega
        case rel => exact ⟨q + 1, by omega, by go_num, vaside ⟨V4, by rw [hnx'.out]; exact H4.out.1, HKX.out.trans H4.out.2, HRX.out.kept HSX.out H4.out.2 HB0.out⟩⟩
theorem vis_all : ∀ N, N ≤ 9000 → ∀ u, sizeV u ≤ N → VisC u
  | 0, _, u, h => by cases u; rw [sizeV] at h; omega
  | N + 1, hN, u, h => vis_step N hN (vis_all N (by omega)) u h
theorem vis_any (u : VT) (h : sizeV u ≤ 9000) : VisC u := vis_all 9000 (Nat.le_refl _) u h
end Go.Proofs.YtcfdfgbobnocnaaGreatDoor
namespace Go.Proofs.YtcfdfgbobnocnaaGreatDoor
open Go.RowKit

theorem seen_start (w : World) (box : Obj) : SeenAt w.heap.size (((((w.alloc box).alloc (.cells #[.slice none 0 0] 38)).alloc (.map #[] 0)).alloc (.cells #[.map (some (w.heap.size + 2))] 75)).alloc (.cells #[.func (.func 34) #[] #[.pointer (some ⟨w.heap.size + 3, 0, none⟩), .pointer (some ⟨w.heap.size + 1, 0, none⟩), .pointer (some ⟨w.heap.size + 4, 0, none⟩)]] 76)) (.slice none 0 0) [] := by
  have e0 : (w.alloc box).heap.size = w.heap.size + 1 := by simp
  have e1 : ((w.alloc box).alloc (.cells #[.slice none 0 0] 38)).heap.size = w.heap.size + 2 := by simp
  have e2 : (((w.alloc box).alloc (.cells #[.slice none 0 0] 38)).alloc (.map #[] 0)).heap.size = w.heap.size + 3 := by simp
  have e3 : ((((w.alloc box).alloc (.cells #[.slice none 0 0] 38)).alloc (.map #[] 0)).alloc (.cells #[.map (some (w.heap.size + 2))] 75)).heap.size = w.heap.size + 4 := by simp
  refine ⟨?_, ?_, ?_, World.ownsRow_nil _ _ _ _, .map [], ?_, SeenV.nil⟩
  · refine (Below.heap_alloc _ _ _ (by omega)).trans ((Below.heap_alloc _ _ _ (by omega)).trans ((Below.heap_alloc _ _ _ (by omega)).trans ?_))
    have := heap_alloc_new (w.alloc box) (.cells #[.slice none 0 0] 38)
    rwa [e0] at this
  · refine (Below.heap_alloc _ _ _ (by omega)).trans ?_
    have := heap_alloc_new (((w.alloc box).alloc (.cells #[.slice none 0 0] 38)).alloc (.map #[] 0)) (.cells #[.map (some (w.heap.size + 2))] 75)
    rwa [e2] at this
  · have := heap_alloc_new ((((w.alloc box).alloc (.cells #[.slice none 0 0] 38)).alloc (.map #[] 0)).alloc (.cells #[.map (some (w.heap.size + 2))] 75)) (.cells #[.func (.func 34) #[] #[.pointer (some ⟨w.heap.size + 3, 0, none⟩), .pointer (some ⟨w.heap.size + 1, 0, none⟩), .pointer (some ⟨w.heap.size + 4, 0, none⟩)]] 76)
    rwa [e3] at this
  · have := World.ownsMap_made ((w.alloc box).alloc (.cells #[.slice none 0 0] 38)) Tryz.prog 9 (plainElem (H := Unit) Tryz.prog 4)
    rw [e1] at this
    exact (this.alloc _).alloc _
theorem own_mono {w : World} {B B' : Nat} {e : TypeId} {k : Nat} {v : Value} {n : Nat} {xs : List Value} (h : w.ownsRow B e k v n xs) (hb : B' ≤ B) : w.ownsRow B' e k v n xs := by
  obtain ⟨h0, h1⟩ := h
  refine ⟨h0, ?_⟩
  rcases h1 with h1 | ⟨g, cap, cur, a1, a2, a3⟩
  · exact .inl h1
  · exact .inr ⟨g, cap, cur, a1, Nat.le_trans hb a2, a3⟩
theorem start_below (w : World) (o1 o2 o3 o4 o5 : Obj) : Below w.heap.size w (((((w.alloc o1).alloc o2).alloc o3).alloc o4).alloc o5) := by
  have h1 := (Below.refl w.heap.size w).alloc (Nat.le_refl _) o1
  have h2 := h1.alloc h1.size o2
  have h3 := h2.alloc h2.size o3
  have h4 := h3.alloc h3.size o4
  exact h4.alloc h4.size o5
set_option maxRecDepth 100000 in
set_option maxHeartbeats 4000000 in
theorem vars_any (u : VT) (hz : sizeV u ≤ 9000) (c0 c1 c2 c3 c4 : Value) (w : World) (B : Nat) (hB : B ≤ w.heap.size) (hv : VAt w B u c0 c1 c2 c3 c4) :
    Calls Tryz.prog 14 #[.agg #[c0, c1, c2, c3, c4]] w fun e w' => ∃ V, e = .returned V ∧ w'.ownsRow w.heap.size 9 1 V (varsV u []).length ((varsV u []).map .string) ∧ Below w.heap.size w w' := by
  have HV := Lib.hid hv
  have C := Lib.hid (vis_any u hz)
  have hmf : ∀ (fn : Fn) (first cap : Array Value) (w : World), (Instr.makeFunc fn first cap).run Tryz.prog w = .ok (.func fn first cap) w := fun _ _ _ _ => rfl
  have hmm := @run_makeMap Tryz.prog
  obtain ⟨k, n, s, l, m⟩ := u
  generalize hU : VT.mk k n s l m = U at *
  rw [← hU] at hv
  unfold VAt at hv
  obtain ⟨rfl, rfl, rfl, hsl, ⟨A, c, rfl, hl, hL⟩, A', c', rfl, hm, hM⟩ := hv
  have hz0 := Lib.hid hz
  clear hL hM hU hz
  go_enter Tryz.func14, Tryz.ntmps14
  go_wp2_with fail
  refine (C.out _ _ _ _ _ _ B w.heap.size (.slice none 0 0) [] hB (VAt.below ((start_below w _ _ _ _ _).mono hB) _ _ _ _ _ _ HV.out) (seen_start w _) (by simp; have := hz0.out; omega)).mono ?_
  rintro e w1 ⟨rfl, V, h1, h2⟩
  have hb := Lib.hid ((start_below w _ _ _ _ _).trans (h2.below (seen_start w _) (Nat.le_succ _)))
  obtain ⟨y0, y1⟩ := one_cell h1.1
  have H1 := Lib.hid h1
  clear h1 h2
  go_wp2_with fail
  go_ret
  exact ⟨V, rfl, own_mono H1.out.2.2.2.1 (by omega), hb.out⟩
end Go.Proofs.YtcfdfgbobnocnaaGreatDoor
namespace Go.Proofs.YtcfdfgbobnocnaaGreatDoor
open Go.RowKit

set_option maxRecDepth 100000 in
theorem rhas_any (A : Option Addr) (n c : Nat) (xs : List ByteArray) (s : ByteArray) (w : World) (hn : n ≤ 9223372036854775807) (ha : Blk.StrsAt w w.heap.size A n xs) :
    Calls Tryz.prog 15 #[.slice A n c, .string s] w fun e w' => e = .returned (.bool (hasN xs s)) ∧ Below w.heap.size w w' := by
  have HA := Lib.hid ha
  clear ha
  go_enter Tryz.func15, Tryz.ntmps15
  go_wp2_with fail
  go_loopg [5] n (fun g i wx => ∃ k : Nat, k + g = n ∧ i = .int .i64 k ∧ (∃ m, w.drewN m = wx) ∧ Aside (hasN (xs.take k) s = false))
  case atStart => exact ⟨0, by omega, rfl, ⟨0, rfl⟩, Blk.Aside.intro (by rw [List.take_zero]; rfl)⟩
  case round =>
    obtain ⟨k, hk, rfl, ⟨m, rfl⟩, H⟩ := hrel
    cases gk with
    | zero =>
      obtain rfl : k = n := by omega
      have hd : Hid (hasN xs s = false) := Lib.hid (by
        have h := H.out
        rwa [List.take_of_length_le (by rw [HA.out.1]; omega)] at h)
      clear H
      go_wp2_with fail
      go_ret
      exact ⟨Blk.ret_bool hd.out.symm, Blk.below_draws (Below.refl _ _) m⟩
    | succ g =>
      have hlt : k < n := by omega
      have hlt' : (k : Int) < (n : Int) := by omega
      obtain ⟨x, hx⟩ : ∃ x, xs[k]? = some x := ⟨_, List.getElem?_eq_getElem (by rw [HA.out.1]; omega)⟩
      obtain ⟨b1, o1, rfl, hl1, c1⟩ := HA.out.2 k x hx
      have HX := Lib.hid hx
      clear hx
      by_cases hxy : x = s
      · subst hxy
        have e1' : (x.toList == x.toList) = true := by simp
        have hT : Hid (hasN xs x = true) := Lib.hid (hasN_iff.2 (List.mem_of_getElem? HX.out))
        clear H
        go_wp2_with fail
        go_ret
        exact ⟨Blk.ret_bool hT.out.symm, Blk.below_draws (Below.refl _ _) _⟩
      · have hne : x.toList ≠ s.toList := fun h => hxy (by
          rw [Lib.toList_data, Lib.toList_data] at h
          exact ByteArray.ext (Array.toList_inj.1 h))
        have e1' : (x.toList == s.toList) = false := by simpa using hne
        clear hne
        have hT := Lib.hid (hasN_take H.out HX.out hxy)
        clear H hxy
        go_wp2_with fail
        go_roundg g
        case measure => omega
        case rel => exact ⟨k + 1, by omega, by go_num, ⟨_, rfl⟩, Blk.Aside.intro hT.out⟩
set_option maxRecDepth 100000 in
theorem rscalar_any (n : ByteArray) (w : World) : Calls Tryz.prog 47 #[.string n] w fun e w' => e = .returned (.bool (scalarB n)) ∧ Below w.heap.size w w' := by
  unfold scalarB
  obtain ⟨x0, h0⟩ : ∃ x, (n.toList == [73, 110, 116]) = x := ⟨_, rfl⟩
  obtain ⟨x1, h1⟩ : ∃ x, (n.toList == [83, 116, 114, 105, 110, 103]) = x := ⟨_, rfl⟩
  obtain ⟨x2, h2⟩ : ∃ x, (n.toList == [66, 111, 111, 108, 101, 97, 110]) = x := ⟨_, rfl⟩
  obtain ⟨x3, h3⟩ : ∃ x, (n.toList == [73, 68]) = x := ⟨_, rfl⟩
  have HE : Hid ((n.toList == [73, 110, 116] || n.toList == [83, 116, 114, 105, 110, 103] || n.toList == [66, 111, 111, 108, 101, 97, 110] || n.toList == [73, 68]) = (x0 || x1 || x2 || x3)) := Lib.hid (by rw [h0, h1, h2, h3])
  rw [HE.out]
  clear HE
  cases x0 <;> cases x1 <;> cases x2 <;> cases x3
  all_goals
    go_enter Tryz.func47, Tryz.ntmps47
    go_wp2_with fail
    go_ret
    exact ⟨rfl, Below.refl _ _⟩
set_option maxRecDepth 100000 in
set_option maxHeartbeats 4000000 in
theorem rfind_any (S : SchT) (n : ByteArray) (c0 c1 c2 : Value) (w : World) (B : Nat) (hB : B ≤ w.heap.size) (hn : n.size ≤ 9223372036854775807) (hS : TS w (fun b => b < B) (encSch S) [c0, c1, c2]) :
    Calls Tryz.prog 30 #[.agg #[c0, c1, c2], .string n] w (FoundD (findD S.defs n) B w) := by
  obtain ⟨A, k, e, hl, hR⟩ := sch_cells hS
  injection e with e0 e
  injection e with e1 e
  injection e with e2 e
  subst e0 e1 e2
  have HB0 := Lib.hid hB
  have HR := Lib.hid hR
  have HN := Lib.hid hn
  clear hB hS hR e
  have X0 := Lib.hid (FR.start w (.slice A S.defs.length k) (.string S.query) (.string S.mutation) (.cells #[.int .i64 0, .string ⟨#[]⟩, .slice none 0 0, .slice none 0 0, .slice none 0 0, .slice none 0 0] 65))
  have SC := Lib.hid (fun (wx : World) => rscalar_any n wx)
  have HQ : Hid (findD S.defs n = if scalarB n = true then (⟨0, n, [], [], [], []⟩, true) else findL S.defs n) := Lib.hid rfl
  generalize findD S.defs n = Q at HQ ⊢
  obtain ⟨q, mu, l, el⟩ : ∃ q mu l, S = ⟨l, q, mu⟩ := ⟨S.query, S.mutation, S.defs, rfl⟩
  subst el
  go_enter Tryz.func30, Tryz.ntmps30
  go_wp2_with fail
  refine (SC.out _).mono ?_
  rintro e w1 ⟨rfl, hb1⟩
  have X1 := Lib.hid (X0.out.next hb1)
  clear hb1 X0 SC
  cases hs : scalarB n with
  | true =>
    have hQ : Q = (⟨0, n, [], [], [], []⟩, true) := HQ.out.trans (by rw [hs, if_pos rfl])
    obtain ⟨⟨z0, z1, z2, z3, z4, z5⟩, v0, v1, v2, v3, v4, v5⟩ := six_cells X1.out.res
    go_wp2_with fail
    refine ret_d2 rfl rfl rfl (six_set X1.out.res) ?_
    subst hQ
    exact ⟨_, _, _, _, _, _, rfl, defn_none _ _ HN.out, six_low (b := w.heap.size + 1) X1.out.low (Nat.le_succ _)⟩
  | false =>
    have HQ2 : Hid (Q = findL l n) := Lib.hid (HQ.out.trans (by rw [hs, if_neg (by decide)]))
    clear HQ hs
    go_wp2_with fail
    go_loopg [6] l.length (fun g i wx => ∃ q' : Nat, q' + g = l.length ∧ i = .int .i64 q' ∧ Aside (findL (l.drop q') n = findL l n) ∧ Aside (FR w (.slice A l.length k) (.string q) (.string mu) (.cells #[.int .i64 0, .string ⟨#[]⟩, .slice none 0 0, .slice none 0 0, .slice none 0 0, .slice none 0 0] 65) wx))
    case atStart => exact ⟨0, by omega, rfl, Blk.Aside.intro (by rw [List.drop_zero]), Blk.Aside.intro X1.out⟩
    case round =>
      obtain ⟨q', hq, rfl, HA, HX⟩ := hrel
      have X2 := Lib.hid HX.out
      obtain ⟨x0, x1, x2⟩ := three_cells X2.out.box
      clear HX
      cases gk with
      | zero =>
        obtain rfl : q' = l.length := by omega
        have hQ : Q = (zeroD, false) := HQ2.out.trans (by rw [← HA.out, List.drop_length]; rfl)
        obtain ⟨⟨z0, z1, z2, z3, z4, z5⟩, v0, v1, v2, v3, v4, v5⟩ := six_cells X2.out.res
        clear HA
        go_wp2_with fail
        refine ret_d2 rfl rfl rfl (six_set X2.out.res) ?_
        subst hQ
        exact ⟨_, _, _, _, _, _, rfl, defn_none _ _ (by decide), six_low (b := w.heap.size + 1) X2.out.low (Nat.le_succ _)⟩
      | succ g =>
        have hqn : q' < l.length := by omega
        have hqn' : (q' : Int) < (l.length : Int) := by omega
        obtain ⟨d, hd⟩ : ∃ x, l[q']? = some x := ⟨_, List.getElem?_eq_getElem hqn⟩
        obtain ⟨b, p, d0, d1, d2, d3, d4, d5, rfl, hlt, ⟨g0, g1, g2, g3, g4, g5⟩, hT⟩ := defn_at (RowT.below (X2.out.low.mono HB0.out) HR.out) hd
        have HT := Lib.hid hT
        obtain ⟨Af, kf, Ax, kx, Ap, kp, Am, km, e, _⟩ := defn_cells hT
        simp only [List.cons.injEq, and_true] at e
        obtain ⟨rfl, rfl, rfl, rfl, rfl, rfl⟩ := e
        have hN := findL_at (n := n) hd
        have hlt' : b < wr.heap.size := Nat.lt_of_lt_of_le hlt (Nat.le_trans HB0.out X2.out.low.size)
        have hne : ¬ b = w.heap.size + 1 := by have := HB0.out; omega
        have hne2 : ¬ w.heap.size + 1 = b := by have := HB0.out; omega
        clear hT hd hlt
        cases e : (d.name.toList == n.toList) with
        | true =>
          have hQ : Q = (d, true) := HQ2.out.trans (by rw [← HA.out, hN, if_pos e])
          have HQ3 := Lib.hid hQ
          obtain ⟨⟨z0, z1, z2, z3, z4, z5⟩, v0, v1, v2, v3, v4, v5⟩ := six_cells X2.out.res
          clear HA hN hQ
          go_wp2_with fail
          refine ret_d2 rfl rfl rfl (six_set X2.out.res) ?_
          have hQ := HQ3.out
          subst hQ
          exact ⟨_, _, _, _, _, _, rfl, TS.low (B := B) (six_low (b := w.heap.size + 1) (Below.refl _ _) (Nat.le_succ_of_le HB0.out)) HT.out, six_low (b := w.heap.size + 1) X2.out.low (Nat.le_succ _)⟩
        | false =>
          have hG : Hid (findL (l.drop (q' + 1)) n = findL l n) := Lib.hid (by rw [← HA.out, hN, if_neg (by rw [e]; decide)])
          clear HA hN
          go_wp2_with fail
          go_roundg g
          case measure => omega
          case rel => exact ⟨q' + 1, by omega, by go_num, Blk.Aside.intro hG.out, Blk.Aside.intro X2.out⟩
end Go.Proofs.YtcfdfgbobnocnaaGreatDoor
namespace Go.Proofs.YtcfdfgbobnocnaaGreatDoor
open Go.RowKit

set_option maxRecDepth 100000 in
set_option maxHeartbeats 1000000 in
theorem stexts_yes (A B : Option Addr) (n c d : Nat) (xs : List ByteArray) (w : World) (hn : n ≤ 9223372036854775807) (ha : Blk.StrsAt w w.heap.size A n xs) (hb : Blk.StrsAt w w.heap.size B n xs) :
    Calls Tryz.prog 16 #[.slice A n c, .slice B n d] w fun e w' => e = .returned (.bool true) ∧ Below w.heap.size w w' := by
  have HA := Lib.hid ha
  have HB := Lib.hid hb
  clear ha hb
  have e0 : ((n : Int) != (n : Int)) = false := by simp
  go_enter Tryz.func16, Tryz.ntmps16
  go_wp2
  go_loopg [5] n (fun g i wx => ∃ k : Nat, k + g = n ∧ i = .int .i64 k ∧ ∃ m, w.drewN m = wx)
  case atStart => exact ⟨0, by omega, rfl, 0, rfl⟩
  case round =>
    obtain ⟨k, hk, rfl, m, rfl⟩ := hrel
    cases gk with
    | zero =>
      obtain rfl : k = n := by omega
      go_wp2
      go_ret
      exact ⟨rfl, Blk.below_draws (Below.refl _ _) m⟩
    | succ g =>
      have hlt : k < n := by omega
      have hlt' : (k : Int) < (n : Int) := by omega
      have hk0 : (0 : Int) ≤ (k : Int) := by omega
      obtain ⟨x, hx⟩ : ∃ x, xs[k]? = some x := ⟨_, List.getElem?_eq_getElem (by rw [HA.out.1]; omega)⟩
      obtain ⟨b1, o1, rfl, hl1, c1⟩ := HA.out.2 k x hx
      obtain ⟨b2, o2, rfl, hl2, c2⟩ := HB.out.2 k x hx
      clear hx
      have e1 : (x.toList != x.toList) = false := by simp
      have e1' : (x.toList == x.toList) = true := by simp
      go_wp2
      go_quiet (fail)
      go_wp2
      go_roundg g
      case measure => omega
      case rel => exact ⟨k + 1, by omega, by go_num, _, rfl⟩
end Go.Proofs.YtcfdfgbobnocnaaGreatDoor
