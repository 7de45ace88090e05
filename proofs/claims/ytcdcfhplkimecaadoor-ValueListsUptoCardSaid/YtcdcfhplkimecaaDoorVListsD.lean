/- The document's Has, and texts in a row. -/
import Derived.Test.YtcdcfhplkimecaaDoorVVarsA
import Derived.Test.YtcdcfhplkimecaaDoorSameTexts
import Derived.Test.YtcdcfhplkimecaaDoorVPair
import Derived.Test.YtcdcfhplkimecaaDoorVSameT
import Derived.Test.YtcdcfhplkimecaaDoorTFacts
import Derived.Test.YtcdcfhplkimecaaDoorLawVUnlike
import Derived.Test.YtcdcfhplkimecaaDoorVFrame
namespace Go.Proofs.YtcdcfhplkimecaaDoor
open Go.RowKit

theorem hasN_take {xs : List ByteArray} {s x : ByteArray} {k : Nat} (h : hasN (xs.take k) s = false) (hx : xs[k]? = some x) (hne : ¬ x = s) : hasN (xs.take (k + 1)) s = false := by
  cases h' : hasN (xs.take (k + 1)) s with
  | false => rfl
  | true =>
    have := hasN_iff.1 h'
    rw [List.take_add_one, hx] at this
    rcases List.mem_append.1 this with h1 | h1
    · rw [hasN_iff.2 h1] at h; cases h
    · simp at h1; exact absurd h1.symm hne
set_option maxRecDepth 100000 in
theorem has_any (A : Option Addr) (n c : Nat) (xs : List ByteArray) (s : ByteArray) (w : World) (hn : n ≤ 100000) (ha : Blk.StrsAt w w.heap.size A n xs) :
    Calls Tryd.prog 31 #[.slice A n c, .string s] w fun e w' => e = .returned (.bool (hasN xs s)) ∧ Below w.heap.size w w' := by
  have HA := Lib.hid ha
  clear ha
  go_enter Tryd.func31, Tryd.ntmps31
  go_wp2_with fail
  go_loopg [5] n (fun g i wx => ∃ k : Nat, k + g = n ∧ i = .int .i64 k ∧ (∃ m, w.drewN m = wx) ∧ Aside (hasN (xs.take k) s = false))
  case atStart => exact ⟨0, by omega, rfl, ⟨0, rfl⟩, Blk.Aside.intro (by rw [List.take_zero]; rfl)⟩
  case round =>
    obtain ⟨k, hk, rfl, ⟨m, rfl⟩, H⟩ := hrel
    cases gk with
    | zero =>
      obtain rfl : k = n := by omega
      have hd : Hid (hasN xs s = false) := Lib.hid (by
        have h := H.out
        rwa [List.take_of_length_le (by rw [HA.out.1]; omega)] at h)
      clear H
      go_wp2_with fail
      go_ret
      exact ⟨Blk.ret_bool hd.out.symm, Blk.below_draws (Below.refl _ _) m⟩
    | succ g =>
      have hlt : k < n := by omega
      have hlt' : (k : Int) < (n : Int) := by omega
      obtain ⟨x, hx⟩ : ∃ x, xs[k]? = some x := ⟨_, List.getElem?_eq_getElem (by rw [HA.out.1]; omega)⟩
      obtain ⟨b1, o1, rfl, hl1, c1⟩ := HA.out.2 k x hx
      have HX := Lib.hid hx
      clear hx
      by_cases hxy : x = s
      · subst hxy
        have e1' : (x.toList == x.toList) = true := by simp
        have hT : Hid (hasN xs x = true) := Lib.hid (hasN_iff.2 (List.mem_of_getElem? HX.out))
        clear H
        go_wp2_with fail
        go_ret
        exact ⟨Blk.ret_bool hT.out.symm, Blk.below_draws (Below.refl _ _) _⟩
      · have hne : x.toList ≠ s.toList := fun h => hxy (by
          rw [Lib.toList_data, Lib.toList_data] at h
          exact ByteArray.ext (Array.toList_inj.1 h))
        have e1' : (x.toList == s.toList) = false := by simpa using hne
        clear hne
        have hT := Lib.hid (hasN_take H.out HX.out hxy)
        clear H hxy
        go_wp2_with fail
        go_roundg g
        case measure => omega
        case rel => exact ⟨k + 1, by omega, by go_num, ⟨_, rfl⟩, Blk.Aside.intro hT.out⟩
end Go.Proofs.YtcdcfhplkimecaaDoor
/- What the laws ValueLists and ValueSays lean on: a plain value is good; the first of a list; a box that stands. -/
namespace Go.Proofs.YtcdcfhplkimecaaDoor
open Go.RowKit

theorem good_tail : ∀ l : List UInt8, tailB l = true → goodB l = true
  | [], _ => rfl
  | b :: t, h => by
    have h' : (letB (b.toNat : Int) || digB (b.toNat : Int)) = true ∧ tailB t = true := by simpa [tailB] using h
    have hb : b.toNat < 128 := by
      have := h'.1
      rw [Bool.or_eq_true] at this
      rcases this with h | h
      · have := of_decide_eq_true h; omega
      · have := of_decide_eq_true h; omega
    have hd := dec_ascii t hb
    unfold goodB
    rw [eachP_step (by simp) (by rw [hd]; simp), hd]
    have := good_tail t h'.2
    unfold goodB at this
    simpa using this
theorem good_name (l : List UInt8) (h : nameB l = true) : goodB l = true := good_tail l (tailB_of_nameB h)
theorem plain_good {v : VT} (h : plainB v = true) : fitV goodB v = true := by
  unfold plainB at h
  rw [Bool.and_eq_true, fit_two good_name v, Bool.and_eq_true] at h
  exact h.1.1
def fitTo : VL → Nat → Bool
  | _, 0 => true
  | .nil, _ + 1 => true
  | .cons v t, j + 1 => fitV goodB v && fitTo t j
theorem fitTo_zero (l : VL) : fitTo l 0 = true := by cases l <;> rfl
theorem fitTo_next : ∀ {l : VL} {j : Nat} {v : VT}, l.get j = some v → fitTo l (j + 1) = (fitTo l j && fitV goodB v)
  | .nil, _, _, h => by simp [VL.get] at h
  | .cons u t, 0, v, h => by
    have : u = v := by simpa [VL.get] using h
    subst this
    show (fitV goodB u && fitTo t 0) = (true && fitV goodB u)
    rw [fitTo_zero]; simp
  | .cons u t, j + 1, v, h => by
    rw [fitTo, fitTo_next (l := t) (j := j) (v := v) h, fitTo, Bool.and_assoc]
theorem fitTo_all : ∀ l : VL, fitTo l l.len = fitL goodB l
  | .nil => rfl
  | .cons v t => by rw [VL.len, fitTo, fitTo_all t, fitL]
def listT (l : VL) : VT := .mk 6 0 ⟨#[]⟩ l .nil
theorem list_good (l : VL) : fitV goodB (listT l) = fitL goodB l := by
  unfold listT
  rw [fitV, fitM]
  have : soundB 6 0 (⟨#[]⟩ : ByteArray).data.toList l.len VM.nil.len = true := rfl
  rw [this]; simp
theorem list_dep (l : VL) : depV (listT l) = depL l + 1 := by
  have := dep_kids 6 0 ⟨#[]⟩ l .nil (.inl rfl)
  rw [kids_list] at this
  unfold listT
  omega
theorem list_vars (l : VL) : varsV (listT l) [] = (allL l).foldl addN [] := by
  unfold varsV listT
  rw [all_kids, kids_list]
  rfl
/-- All below a box stands, and the box. -/
def KBx (w : World) (o : Obj) (W : World) : Prop := Below (w.heap.size + 1) (w.alloc o) W
theorem KBx.start (w : World) (o : Obj) : KBx w o (w.alloc o) := Below.refl _ _
theorem KBx.low {w W : World} {o : Obj} (h : KBx w o W) : Below w.heap.size w W := ((Below.refl w.heap.size w).alloc (Nat.le_refl _) o).trans (h.mono (Nat.le_succ _))
theorem KBx.up {w W : World} {o : Obj} (h : KBx w o W) : w.heap.size + 1 ≤ W.heap.size := by
  have := h.size
  have : (w.alloc o).heap.size = w.heap.size + 1 := by simp
  omega
theorem KBx.next {w W W' : World} {o : Obj} (h : KBx w o W) (hb : Below W.heap.size W W') : KBx w o W' := h.trans (hb.mono h.up)
theorem KBx.row {w W W' : World} {o : Obj} {row : Option Nat} (h : KBx w o W) (hg : W.grownBy W' row) (hr : ∀ k, row = some k → w.heap.size + 1 ≤ k) : KBx w o W' := h.grown hg h.up hr
theorem KBx.five {w W : World} {c0 c1 c2 c3 c4 : Value} (h : KBx w (.cells #[c0, c1, c2, c3, c4] 25) W) : Five W w.heap.size 0 c0 c1 c2 c3 c4 := (five_at_new w _ _ _ _ _ _ rfl).below h (Nat.lt_succ_self _)
theorem KBx.at {w W : World} {o : Obj} {v : VT} {c0 c1 c2 c3 c4 : Value} (h : KBx w o W) (hv : VAt w w.heap.size v c0 c1 c2 c3 c4) : VAt W w.heap.size v c0 c1 c2 c3 c4 := VAt.below h.low _ _ _ _ _ _ hv
theorem KBx.laid {w W : World} {o : Obj} (h : KBx w o W) (hw : Laid5 w) : Laid5 W := hw.below h.low
/-- A row of texts of one's own. -/
def SR (base : Nat) (W : World) (V : Value) (xs : List ByteArray) : Prop := W.ownsRow base 9 1 V xs.length (xs.map .string)
theorem SR.nil (base : Nat) (W : World) : SR base W (.slice none 0 0) [] := World.ownsRow_nil _ _ _ _
theorem SR.low {base : Nat} {W W' : World} {V : Value} {xs : List ByteArray} (h : SR base W V xs) (hb : Below W.heap.size W W') : SR base W' V xs := own_low h hb
theorem SR.strs {base : Nat} {W : World} {V : Value} {xs : List ByteArray} (h : SR base W V xs) : ∃ A c, V = .slice A xs.length c ∧ Blk.StrsAt W W.heap.size A xs.length xs := by
  obtain ⟨A, c, e⟩ := Blk.own_form h
  subst e
  exact ⟨A, c, rfl, (Blk.strs_of_own h).2⟩
theorem SR.take {base : Nat} {W : World} {V : Value} {xs : List ByteArray} (h : SR base W V xs) (hn : xs ≠ []) : ∃ g c, V = .slice (some ⟨g, 0, none⟩) xs.length c ∧ base ≤ g ∧ g < W.heap.size ∧ ∀ i x, xs[i]? = some x → W.cell? ⟨g, i, none⟩ = some (.string x) := by
  obtain ⟨A, c, rfl, hs⟩ := h.strs
  rcases h.2 with ⟨_, h0⟩ | ⟨g, cap, cur, e, hb, hg, _⟩
  · exact absurd (List.length_eq_zero_iff.1 h0) hn
  · injection e with e1 e2 e3
    subst e1
    refine ⟨g, c, rfl, hb, (h.lt g rfl).2, fun i x hx => ?_⟩
    obtain ⟨b, o, e, _, hc⟩ := hs.2 i x hx
    injection e with e
    injection e with e e'
    subst e e'
    rw [Nat.zero_add] at hc
    exact hc
theorem take_adds {ms : List ByteArray} {k : Nat} {x : ByteArray} (h : ms[k]? = some x) (out : List ByteArray) : (ms.take (k + 1)).foldl addN out = addN ((ms.take k).foldl addN out) x := by
  rw [List.take_add_one, h, List.foldl_append]
  rfl
theorem take_all {ms : List ByteArray} (out : List ByteArray) : (ms.take ms.length).foldl addN out = ms.foldl addN out := by rw [List.take_length]
theorem vars_len (v : VT) : (varsV v []).length ≤ sizeV v := by
  have := adds_len (allV v) []
  have := all_len v
  unfold varsV
  simp at *
  omega
end Go.Proofs.YtcdcfhplkimecaaDoor
/- The walk of the law ValueLists. -/
namespace Go.Proofs.YtcdcfhplkimecaaDoor.LVLists
open Go.RowKit

abbrev bx (A : Option Addr) (n c : Nat) : Obj := .cells #[.int .i64 6, .int .i64 0, .string ⟨#[]⟩, .slice A n c, .slice none 0 0] 25
theorem names_more {w W w2 : World} {ob o : Obj} {lo : Nat} {V V2 Vm : Value} {ms out : List ByteArray} {y : ByteArray} (hK : KBx w ob W) (hs : SR (w.heap.size + 1) W V out) (hm : SR lo W Vm ms) (hd : ∀ b, Vm.ownBlock = some b → V.ownBlock ≠ some b)
    (hown : w2.ownsRow (w.heap.size + 1) 9 1 V2 (out.length + 1) (out.map .string ++ [.string y])) (hg : (W.alloc o).grownBy w2 V.ownBlock) (hV2 : ∀ k, V2.ownBlock = some k → V.ownBlock = some k ∨ W.heap.size ≤ k) :
    KBx w ob w2 ∧ SR (w.heap.size + 1) w2 V2 (out ++ [y]) ∧ SR lo w2 Vm ms ∧ ∀ b, Vm.ownBlock = some b → V2.ownBlock ≠ some b := by
  have ha : Below W.heap.size W (W.alloc o) := (Below.refl _ _).alloc (Nat.le_refl _) o
  refine ⟨(hK.next ha).row hg (fun k hk => (hs.lt k hk).1), ?_, ?_, fun b hb e => ?_⟩
  · unfold SR
    rw [List.length_append, List.map_append]
    exact hown
  · refine World.ownsRow.kept (hm.low ha) hg ?_
    cases h : Vm.ownBlock with
    | none => exact .inl rfl
    | some b => exact .inr (fun e => hd b h e.symm)
  · rcases hV2 b e with h | h
    · exact hd b hb h
    · have := (hm.lt b hb).2; omega
set_option maxRecDepth 100000 in
set_option maxHeartbeats 16000000 in
theorem law (l : VL) (A : Option Addr) (c : Nat) (w : World) (hl : l.len ≤ 9223372036854775807) (hL : LAt w w.heap.size l A 0) (hz : sizeL l + 1 ≤ 1048576) (hw : Laid5 w) :
    Calls Tryd.prog 7 #[.slice A l.len c] w fun e w' => e = .returned (.bool true) ∧ Below w.heap.size w w' := by
  have hU : VAt w w.heap.size (listT l) (.int .i64 6) (.int .i64 0) (.string ⟨#[]⟩) (.slice A l.len c) (.slice none 0 0) := by
    unfold listT VAt
    exact ⟨rfl, rfl, rfl, Nat.zero_le _, ⟨A, c, rfl, hl, hL⟩, none, 0, rfl, Nat.zero_le _, by unfold MAt; trivial⟩
  have HU := Lib.hid hU
  have HL := Lib.hid hL
  have HWW := Lib.hid hw
  have hsz : sizeV (listT l) = sizeL l + 1 := by
    unfold listT
    rw [sizeV, sizeM]
    have : (⟨#[]⟩ : ByteArray).size = 0 := rfl
    omega
  have K0 := Lib.hid (KBx.start w (bx A l.len c))
  have S1 := fun wx (K : KBx w (bx A l.len c) wx) => Lib.hid (by
    have h := live_size (w := wx) (u := listT l) ⟨_, _, _, _, _, rfl, VAt.more K.low.size _ _ _ _ _ _ (K.at hU)⟩
    rw [W64_small (by omega), hsz] at h
    exact h)
  have AW := fun wx (K : KBx w (bx A l.len c) wx) => Lib.hid (vawake_any wx (K.laid HWW.out))
  have HSZ := Lib.hid hsz
  clear hU hL hw hsz
  by_cases h1 : ((sizeL l + 1 : Nat) : Int) > 2000
  · have h1' : (sizeL l : Int) + 1 > 2000 := by omega
    go_enter Tryd.func7, Tryd.ntmps7
    go_wp2_with fail
    refine (S1 _ K0.out).out.mono ?_
    rintro e w2 ⟨rfl, hb2⟩
    have K2 := Lib.hid (K0.out.next hb2)
    clear hb2
    go_wp2_with fail
    refine (AW _ K2.out).out.mono ?_
    rintro e w3 ⟨rfl, hb3⟩
    have K3 := Lib.hid (K2.out.next hb3)
    clear hb3
    go_wp2_with fail
    go_ret
    exact ⟨rfl, K3.out.low⟩
  · have h1' : ¬ (sizeL l : Int) + 1 > 2000 := by omega
    have hz9 : sizeV (listT l) ≤ 9000 := by rw [HSZ.out]; omega
    have hlz : sizeL l ≤ 2000 := by omega
    have hll := len_size l
    have hll' : (l.len : Int) ≤ 2000 := by omega
    have CG := fun wx (K : KBx w (bx A l.len c) wx) => Lib.hid (list_good l ▸ vgood_any (listT l) hz9 _ _ _ _ _ wx w.heap.size K.low.size (K.at HU.out) (K.laid HWW.out))
    have CD := fun wx (K : KBx w (bx A l.len c) wx) => Lib.hid (by
      have h := depth_any (listT l) hz9 _ _ _ _ _ wx w.heap.size K.low.size (K.at HU.out)
      rw [list_dep l, Int.natCast_add] at h
      exact h)
    have CV := fun wx (K : KBx w (bx A l.len c) wx) => Lib.hid (list_vars l ▸ vars_any (listT l) hz9 _ _ _ _ _ wx w.heap.size K.low.size (K.at HU.out))
    have CP := fun wx (K : KBx w (bx A l.len c) wx) => Lib.hid (vplain_any (listT l) hz9 _ _ _ _ _ wx w.heap.size K.low.size (K.at HU.out) (K.laid HWW.out))
    have hpg := Lib.hid (fun h => list_good l ▸ plain_good (v := listT l) h)
    have hdl := Nat.le_trans (depL_size l) hlz
    have hvl := adds_len (allL l) []
    have hvl2 := allL_len l
    have hvl' : ((allL l).foldl addN []).length ≤ 2000 := by simp at hvl; omega
    clear hvl hvl2 h1 hz
    go_enter Tryd.func7, Tryd.ntmps7
    go_wp2_with fail
    refine (S1 _ K0.out).out.mono ?_
    rintro e w2 ⟨rfl, hb2⟩
    have K2 := Lib.hid (K0.out.next hb2)
    clear hb2 S1 K0
    go_wp2_with fail
    go_loopg [4, 5, 6, 7] l.len (fun g good deep nm i wx => ∃ q : Nat, q + g = l.len ∧ i = .int .i64 q ∧ good = .bool (fitTo l q) ∧ deep = .int .i64 (depTo l q) ∧ Aside (KBx w (bx A l.len c) wx ∧ SR (w.heap.size + 1) wx nm ((allTo l q).foldl addN [])))
    case atStart => exact ⟨0, by omega, rfl, by rw [fitTo_zero], by rw [depTo_zero]; rfl, vaside ⟨K2.out, by rw [allTo_zero]; exact SR.nil _ _⟩⟩
    case round =>
      obtain ⟨q, hq, rfl, rfl, rfl, HA⟩ := hrel
      have KX := Lib.hid HA.out.1
      have NX := Lib.hid HA.out.2
      clear HA K2
      cases gk with
      | zero =>
        obtain rfl : q = l.len := by omega
        rw [fitTo_all, depTo_all]
        have hnx := NX.out
        rw [allTo_all] at hnx
        obtain ⟨out, ho⟩ : ∃ out, (allL l).foldl addN [] = out := ⟨_, rfl⟩
        rw [ho] at hnx CV hvl'
        obtain ⟨gl, hgl⟩ : ∃ b, fitL goodB l = b := ⟨_, rfl⟩
        rw [hgl] at CG hpg ⊢
        obtain ⟨pl, hpl⟩ : ∃ b, plainB (listT l) = b := ⟨_, rfl⟩
        rw [hpl] at CP hpg
        have NX' := Lib.hid hnx
        obtain ⟨An, cn, rfl, _⟩ := hnx.strs
        have hpf : ¬ (pl = true ∧ gl = false) := fun h => by have := hpg.out h.1; rw [h.2] at this; cases this
        clear hnx NX hgl hpl ho hpg
        obtain ⟨f0, f1, f2, f3, f4⟩ := KX.out.five
        cases gl <;> cases pl
        case false.true => exact absurd ⟨rfl, rfl⟩ hpf
        all_goals
          clear hpf
          go_wp2_with fail
          refine (CG _ KX.out).out.mono ?_
          rintro e w3 ⟨rfl, hb3⟩
          have K3 := Lib.hid (KX.out.next hb3)
          have N3 := Lib.hid (NX'.out.low hb3)
          clear f0 f1 f2 f3 f4 hb3
          obtain ⟨f0, f1, f2, f3, f4⟩ := K3.out.five
          go_wp2_with fail
          refine (CD _ K3.out).out.mono ?_
          rintro e w4 ⟨rfl, hb4⟩
          have K4 := Lib.hid (K3.out.next hb4)
          have N4 := Lib.hid (N3.out.low hb4)
          clear f0 f1 f2 f3 f4 hb4 K3 N3
          obtain ⟨f0, f1, f2, f3, f4⟩ := K4.out.five
          go_wp2_with fail
          refine (CV _ K4.out).out.mono ?_
          rintro e w5 ⟨Vm, rfl, hm, hb5⟩
          have K5' := Lib.hid (K4.out.next hb5)
          obtain ⟨Am, cm, rfl, hms⟩ := SR.strs hm
          have hns := (Blk.strs_of_own (N4.out.low hb5)).2
          have ST := Blk.sameTexts_any Am An out.length out.length cm cn out out w5 (by omega) hms hns
          rw [show decide (out = out) = true from decide_eq_true rfl] at ST
          have HST := Lib.hid ST
          clear f0 f1 f2 f3 f4 hb5 K4 N4 hm hms hns ST
          obtain ⟨f0, f1, f2, f3, f4⟩ := K5'.out.five
          go_wp2_with fail
          refine HST.out.mono ?_
          rintro e w6 ⟨rfl, hb6⟩
          have K6 := Lib.hid (K5'.out.next hb6)
          clear f0 f1 f2 f3 f4 hb6 K5'
          obtain ⟨f0, f1, f2, f3, f4⟩ := K6.out.five
          go_wp2_with fail
          refine (CP _ K6.out).out.mono ?_
          rintro e w7 ⟨rfl, hb7⟩
          have K7 := Lib.hid (K6.out.next hb7)
          clear f0 f1 f2 f3 f4 hb7 K6
          go_wp2_with fail
          refine (AW _ K7.out).out.mono ?_
          rintro e w8 ⟨rfl, hb8⟩
          have K8 := Lib.hid (K7.out.next hb8)
          clear hb8
          go_wp2_with fail
          go_ret
          exact ⟨rfl, K8.out.low⟩
      | succ g =>
        have hqn : q < l.len := by omega
        have hqn' : (q : Int) < (l.len : Int) := by omega
        obtain ⟨x, hx⟩ := VL.get_lt hqn
        have hxs : sizeV x ≤ 2000 := Nat.le_trans (sizeL_get hx) hlz
        have hrm := allTo_room hx
        have hfn := Lib.hid (fitTo_next hx)
        have hdn := Lib.hid (depTo_next hx)
        have han := Lib.hid (varsL_snoc hx [])
        obtain ⟨b, o, d0, d1, d2, d3, d4, rfl, hblt, hF, hV⟩ := LAt.at HL.out hx
        rw [Nat.zero_add] at hF
        have XG := fun wx (K : KBx w (bx (some ⟨b, o, none⟩) l.len c) wx) => Lib.hid (vgood_any x (by omega) d0 d1 d2 d3 d4 wx w.heap.size K.low.size (K.at hV) (K.laid HWW.out))
        have XD := fun wx (K : KBx w (bx (some ⟨b, o, none⟩) l.len c) wx) => Lib.hid (depth_any x (by omega) d0 d1 d2 d3 d4 wx w.heap.size K.low.size (K.at hV))
        have XV := fun wx (K : KBx w (bx (some ⟨b, o, none⟩) l.len c) wx) => Lib.hid (vars_any x (by omega) d0 d1 d2 d3 d4 wx w.heap.size K.low.size (K.at hV))
        have HF := Lib.hid (fun wx (K : KBx w (bx (some ⟨b, o, none⟩) l.len c) wx) => hF.below K.low hblt)
        have hvl2 := vars_len x
        have hol := adds_len (allTo l q) []
        have hms := Lib.hid (vars_adds x ((allTo l q).foldl addN []))
        obtain ⟨xk, xn, xs, xl, xm⟩ := x
        unfold VAt at hV
        obtain ⟨rfl, rfl, rfl, _, ⟨A3, c3', rfl, _, _⟩, A4, c4', rfl, _, _⟩ := hV
        generalize VT.mk xk xn xs xl xm = x at *
        obtain ⟨gq, hgq⟩ : ∃ b, fitTo l q = b := ⟨_, rfl⟩
        rw [hgq] at hfn ⊢
        obtain ⟨out, ho⟩ : ∃ out, (allTo l q).foldl addN [] = out := ⟨_, rfl⟩
        rw [ho] at NX han hol hms
        obtain ⟨ms, hm0⟩ : ∃ ms, varsV x [] = ms := ⟨_, rfl⟩
        rw [hm0] at XV hvl2 hms
        have hlen : out.length + ms.length ≤ 2000 := by simp at hol; omega
        have hmx := max_nat (depTo l q) (depV x)
        clear CG CD CV CP hpg hgq ho hm0 hF hx hvl2 hol hrm hvl'
        obtain ⟨f0, f1, f2, f3, f4⟩ := HF.out _ KX.out
        cases gq
        rotate_left
        go_wp2_with fail
        refine (XG _ KX.out).out.mono ?_
        rintro e w3 ⟨rfl, hb3⟩
        have K3 := Lib.hid (KX.out.next hb3)
        have N3 := Lib.hid (NX.out.low hb3)
        clear f0 f1 f2 f3 f4 hb3 KX NX
        obtain ⟨f0, f1, f2, f3, f4⟩ := HF.out _ K3.out
        go_wp2_with fail
        rotate_left
        have K3 := KX
        have N3 := NX
        clear KX NX
        go_wp2_with fail
        all_goals
          clear XG
          refine (XD _ K3.out).out.mono ?_
          rintro e w4 ⟨rfl, hb4⟩
          have K4 := Lib.hid (K3.out.next hb4)
          have N4 := Lib.hid (N3.out.low hb4)
          clear f0 f1 f2 f3 f4 hb4 K3 N3 XD
          obtain ⟨f0, f1, f2, f3, f4⟩ := HF.out _ K4.out
          go_wp2_with fail
          refine (XV _ K4.out).out.mono ?_
          rintro e w5 ⟨Vm, rfl, hm, hb5⟩
          have K5' := Lib.hid (K4.out.next hb5)
          have N5 := Lib.hid (N4.out.low hb5)
          have hm5 : SR w4.heap.size w5 Vm ms := hm
          have hds : ∀ b, Vm.ownBlock = some b → u6.ownBlock ≠ some b := fun b h1 h2 => by
            have := (hm5.lt b h1).1
            have := (N4.out.lt b h2).2
            omega
          obtain ⟨Am, cm, rfl, _⟩ := hm5.strs
          have M5 := Lib.hid hm5
          have D5 := Lib.hid hds
          clear f0 f1 f2 f3 f4 hb5 K4 N4 hm hm5 hds XV
          go_wp2_with fail
          go_loopg [6, 9] ms.length (fun g nm k wx => ∃ j : Nat, j + g = ms.length ∧ k = .int .i64 j ∧ Aside (KBx w (bx (some ⟨b, o, none⟩) l.len c) wx ∧ SR (w.heap.size + 1) wx nm ((ms.take j).foldl addN out) ∧ SR w4.heap.size wx (.slice Am ms.length cm) ms ∧ ∀ b, (Value.slice Am ms.length cm).ownBlock = some b → nm.ownBlock ≠ some b))
          case atStart => exact ⟨0, by omega, rfl, vaside ⟨K5'.out, by rw [List.take_zero]; exact N5.out, M5.out, D5.out⟩⟩
          case round =>
            obtain ⟨j, hj, rfl, HA⟩ := hrel
            have KX := Lib.hid HA.out.1
            have NX := Lib.hid HA.out.2.1
            have MX := Lib.hid HA.out.2.2.1
            have DX := Lib.hid HA.out.2.2.2
            clear HA K5' N5 M5 D5
            cases gk with
            | zero =>
              obtain rfl : j = ms.length := by omega
              go_wp2_with fail
              go_roundg g
              case measure => omega
              case rel => exact ⟨q + 1, by omega, by go_num, by rw [hfn.out]; rfl, by rw [hdn.out], vaside ⟨KX.out, by rw [han.out, ← hms.out, ← take_all]; exact NX.out⟩⟩
            | succ g2 =>
              have hjn : j < ms.length := by omega
              have hjn' : (j : Int) < (ms.length : Int) := by omega
              have hcl := adds_len (ms.take j) out
              obtain ⟨cur, hcur⟩ : ∃ cur, (ms.take j).foldl addN out = cur := ⟨_, rfl⟩
              obtain ⟨y, hy⟩ : ∃ y, ms[j]? = some y := ⟨_, List.getElem?_eq_getElem hjn⟩
              have hta := Lib.hid (take_adds hy out)
              rw [hcur] at NX hta hcl
              have hcl' : cur.length ≤ 2000 := by rw [List.length_take] at hcl; omega
              obtain ⟨An, cn, hu6, _⟩ := NX.out.strs
              subst hu6
              obtain ⟨gb, go, hAm, hglt, hcell⟩ := (Blk.strs_of_own MX.out).2.2 j y hy
              subst hAm
              have HH := Lib.hid (has_any An cur.length cn cur y _ (by omega) (Blk.strs_of_own NX.out).2)
              obtain ⟨hb, hhb⟩ : ∃ b, hasN cur y = b := ⟨_, rfl⟩
              rw [hhb] at HH
              have HHB := Lib.hid hhb
              clear hcur hy hhb hcl
              cases hb
              · obtain ⟨i0, hi, hz0, hz1, hz2⟩ := info_parts1 info_txt
                go_wp2_with fail
                refine HH.out.mono ?_
                rintro e w6 ⟨rfl, hb6⟩
                have K6 := Lib.hid (KX.out.next hb6)
                have N6 := Lib.hid (NX.out.low hb6)
                have M6 := Lib.hid (MX.out.low hb6)
                have hcell6 := (hb6.cell (p := ⟨gb, go + j, none⟩) hglt).trans hcell
                have hup := K6.out.up
                clear hcell hb6 HH KX NX MX
                go_wp2_with (at_builtin; refine wpList_append_lies _ rfl _ _ 35 rfl (w.heap.size + 1) 9 i0 (.string ⟨#[]⟩) 1 16 Tryd.underlying35 hi hz0 hz1 hz2 rfl (by decide) _ cur.length (cur.map .string) rfl (own_low N6.out ((Below.refl _ _).alloc (Nat.le_refl _) _)) _ 1 1 [.string y] rfl rfl (txt_new _ _ _ rfl) (by intro u hu; simp at hu; subst hu; rfl) (by decide) (by unfold maxLen; omega) (by omega) (by simp; omega) _ rfl ?_; intro g3 cap3 w7 hown3 hg3 hat3 hlt3; have HM := Lib.hid (names_more K6.out N6.out M6.out DX.out hown3 hg3 (fun k e => own_or e hat3 (by simp))); clear hown3 hg3 hat3)
                go_roundg g2
                case measure => omega
                case rel => exact ⟨j + 1, by omega, by go_num, vaside ⟨HM.out.1, by rw [hta.out, addN, if_neg (by rw [HHB.out]; decide)]; exact HM.out.2.1, HM.out.2.2.1, HM.out.2.2.2⟩⟩
              · go_wp2_with fail
                refine HH.out.mono ?_
                rintro e w6 ⟨rfl, hb6⟩
                have HB6 := Lib.hid hb6
                clear hcell hb6 HH
                go_wp2_with fail
                go_roundg g2
                case measure => omega
                case rel => exact ⟨j + 1, by omega, by go_num, vaside ⟨KX.out.next HB6.out, by rw [hta.out, addN, if_pos HHB.out]; exact NX.out.low HB6.out, MX.out.low HB6.out, DX.out⟩⟩
end Go.Proofs.YtcdcfhplkimecaaDoor.LVLists
/- The law ValueLists is proved: for every input, where the arguments are together of bulk at most 1048576 the law answers true, and its arguments read behind it as they did. Condition: the listed package variables (seine/letters.shapes, the library's strconv.ErrRange, its table of powers and their like) hold what the program's text lays in them (the card ties that). -/
namespace Go.Proofs.YtcdcfhplkimecaaDoor.LVLists
open Go.ChangeShapes Go.WideShapes Go.ChangeAt Go.RowKit

set_option maxRecDepth 100000 in
theorem contract (H : Type) (enc : TypeId × Value → H) (W : World) (base : Nat) (args : Array Value) (ds gs : List (DataW H)) (before : List MemPlace)
    (hval : ∀ (j : Nat) t v, Tryd.f7.params[j]? = some t → args[j]? = some v → Value.okWide Tryd.prog W .any base t v)
    (hW : DataW.Whole enc Tryd.prog Tryd.f7.params.toList Rows.valueListsSpec.vars false W args.toList ds gs before) (hL : laidMetH Tryd.prog Rows.valueListsUptoRow.laid W)
    (hk : Rows.uptoBulkAll (ds ++ gs) ≤ 1048576) :
    Calls Tryd.prog 7 args W fun e W' => ∃ v, e = .returned v ∧ Rows.valueListsSpec.post enc Tryd.prog Tryd.f7 false true false false W args v W' := by
  have hW' := hW
  obtain ⟨p, q, hA0, hV, rfl, hfz, hnd⟩ := hW
  have hA : DataW.TrodAll enc Tryd.prog W 0 (fun _ => true) true Tryd.f7.params.toList args.toList ds p := hA0
  rw [Tryd.params7] at hA hval
  obtain ⟨a0, vs0, d0, ds0, p0, q0, hargs, rfl, rfl, h0, e0⟩ := trodAll_cons hA
  obtain ⟨rfl, rfl, rfl⟩ := trodAll_nil e0
  obtain rfl : args = #[a0] := by cases args; simp_all
  obtain ⟨rfl, rfl⟩ := trodVars_none hV
  obtain ⟨t0, A0, c0, rfl, g0, v0, r0, y0⟩ := open_vals (hval 0 22 a0 rfl rfl) h0
  have z0 := Nat.le_trans y0 (Nat.le_trans (bulk_part (by simp)) hk)
  clear hA0
  refine (law t0 A0 c0 W g0 v0 z0 (laid5_of hL)).mono fun e W' ⟨he, hb⟩ => ?_
  subst he
  exact ⟨_, rfl, law_post hW' rfl (by kernel_rfl) (by rw [Tryd.params7]; decide +kernel) rfl rfl rfl hb⟩

theorem laid_met (os : Os) : laidMet Tryd.prog Rows.valueListsUptoRow.laid ((laidWorld os).forCall (fun _ _ => 0) ⟨#[], #[.slice none 0 0], []⟩).memory :=
  laidWorld_met os _
theorem reads (os : Os) {H : Type} (enc : TypeId × Value → H) : ∃ places, DataW.whole enc Tryd.prog ((laidWorld os).forCall (fun _ _ => 0) ⟨#[], #[.slice none 0 0], []⟩).memory Tryd.f7.params.toList Rows.valueListsSpec.vars false #[Value.slice none 0 0].toList 8 = some ([.nil], [], places) :=
  ⟨[], by kernel_rfl⟩

set_option maxRecDepth 100000 in
theorem lifted (os : Os) (started : os.Started) (H : Type) (enc : TypeId × Value → H) (F : Stop.Interp) :
    ReturnsInHanded {} Tryd.checked os 7 .any ((Rows.OpenSpec.upto Rows.valueListsSpec).preRow enc Tryd.prog Tryd.f7 Rows.valueListsUptoRow.domain false Rows.valueListsUptoRow.laid) (((Rows.OpenSpec.upto Rows.valueListsSpec).at F).post enc Tryd.prog Tryd.f7 false true false false) := by
  obtain ⟨places, hx⟩ := reads os enc
  refine returnsInHanded_of_row (C := Tryd.checked) (s := (Rows.OpenSpec.upto Rows.valueListsSpec)) own started (by kernel_rfl) Tryd.func7
    (witness_row_at (enc := enc) (C := Tryd.checked) false (laidWorld os) #[.slice none 0 0] (World.laidAll_os _ _ _) (by kernel_rfl) (by kernel_rfl) (by kernel_rfl)
      (OpenSpec.preRow_of_cond 8 hx (by kernel_rfl) (fun k hk => by cases hk; kernel_rfl) (by kernel_rfl) (laid_met os))) ?_
  intro W base args ds gs before hval hW _ hcond hz hL _ _
  have hb : Rows.uptoBulkAll (ds ++ gs) ≤ 1048576 := of_decide_eq_true (hcond _ rfl)
  exact contract H enc W base args ds gs before hval hW hL hb

theorem said : Rows.ValueListsUptoSaid :=
  OpenClaim.holds_of_cond 7 Tryd.f7 rfl rfl rfl rfl rfl rfl rfl ⟨rfl, rfl, rfl, rfl, rfl⟩ rfl rfl rfl rfl rfl (by kernel_rfl) Tryd.func7 (by kernel_rfl)
    (of_decide_eq_true (by kernel_rfl)) (by unfold Func.isWrapper; first | (rw [if_pos (by decide +kernel)]; kernel_rfl) | (rw [if_neg (by decide +kernel)]; exact ⟨rfl, rfl⟩))
    (fun os started H enc _ F => by rw [OpenClaim.pre_eq_preRow]; exact lifted os started H enc F)

theorem plain (f : FuncId) (fn : Func) (hf : Tryd.pinned.checked.prog.funcNamed "seine/seinelaw5.ValueLists" = some f) (hfn : Tryd.pinned.checked.prog.funcs[f]? = some fn) :
    true = Tryd.pinned.checked.prog.looks [] ∧ ∀ (j : Nat) t, fn.params[j]? = some t → Tryd.pinned.checked.prog.wantsStandIn t = false := by
  obtain rfl : f = 7 := Option.some.inj ((show Tryd.prog.funcNamed "seine/seinelaw5.ValueLists" = some 7 by kernel_rfl).symm.trans hf) |>.symm
  obtain rfl : fn = Tryd.f7 := (Option.some.inj (Tryd.func7.symm.trans hfn)).symm
  refine ⟨by kernel_rfl, fun j t ht => ?_⟩
  rw [Tryd.params7] at ht
  have hall : ∀ t ∈ [22], Tryd.prog.wantsStandIn t = false := by decide +kernel
  exact hall t (by simpa using Array.mem_of_getElem? ht)

theorem card : Rows.ValueListsUptoCardSaid :=
  Claim7.holds_tied_plain_at .later [] _ _ _ _ said (fun _ h => by cases h) (by kernel_rfl) (fun _ h => by cases h) valueListsUpto_row_tie rfl ⟨rfl, rfl⟩ (by kernel_rfl) rfl plain (by kernel_rfl)
end Go.Proofs.YtcdcfhplkimecaaDoor.LVLists
