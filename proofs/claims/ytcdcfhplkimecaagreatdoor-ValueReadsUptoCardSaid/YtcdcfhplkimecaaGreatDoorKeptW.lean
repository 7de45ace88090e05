/- The walk of the law's own examples: they hold, and below the call's own blocks nothing has turned. -/
import Derived.Test.YtcdcfhplkimecaaGreatDoorEach
import Derived.Test.YtcdcfhplkimecaaGreatDoorJoin
import Derived.Test.YtcdcfhplkimecaaGreatDoorUnits
import Derived.Laws.AppendOwn
import Derived.Deep.AppendLies
namespace Go.Proofs.YtcdcfhplkimecaaGreatDoor
open Go.RowKit

theorem joinS_ex : joinS [55357, 56832] = ⟨#[240, 159, 152, 128]⟩ := by decide +kernel
theorem joinOk_ex : joinOk [55357, 56832] = true := by decide +kernel
theorem codeAt_ex : codeAt ⟨#[97, 195, 169]⟩ 1 = (233, 2) := by decide +kernel
theorem name_ex1 : nameB [95, 97, 49] = true := by decide +kernel
theorem name_ex2 : nameB [49, 97] = false := by decide +kernel
theorem two_ints (w : World) : IntsAt (w.alloc (.cells #[.int .i64 55357, .int .i64 56832] 3)) (w.heap.size + 1) (some ⟨w.heap.size, 0, none⟩) 2 [55357, 56832] :=
  ⟨rfl, fun j z hz => by
    match j, hz with
    | 0, hz => cases hz; exact ⟨_, _, rfl, by omega, by rw [World.cell?_alloc_at _ _ _ _ rfl]; rfl⟩
    | 1, hz => cases hz; exact ⟨_, _, rfl, by omega, by rw [World.cell?_alloc_at _ _ _ _ rfl]; rfl⟩
    | j + 2, hz => simp at hz⟩
end Go.Proofs.YtcdcfhplkimecaaGreatDoor
/- A world that still holds the table and, below the law's own start, all that was there; each callee's contract over such worlds. -/
namespace Go.Proofs.YtcdcfhplkimecaaGreatDoor
open Go.RowKit

def Kept (w wx : World) : Prop := TabAt wx ∧ Below w.heap.size w wx
theorem Kept.start {w : World} (ht : TabAt w) : Kept w w := ⟨ht, Below.refl _ _⟩
theorem Kept.next {w wx wy : World} (h : Kept w wx) (hb : Below wx.heap.size wx wy) : Kept w wy := ⟨h.1.below hb h.1.lt, h.2.trans (hb.mono h.2.size)⟩
theorem Kept.alloc {w wx : World} (h : Kept w wx) (o : Obj) : Kept w (wx.alloc o) := h.next ((Below.refl _ _).alloc (Nat.le_refl _) o)
theorem good_k {w wx : World} (K : Kept w wx) (s : ByteArray) (hs : s.size ≤ 9000) : Calls Tryz.prog 26 #[.string s] wx fun e w' => e = .returned (.bool (goodB s.data.toList)) ∧ Kept w w' :=
  (good_any s wx hs K.1).mono fun _ _ ⟨he, hb⟩ => ⟨he, K.next hb⟩
theorem source_k {w wx : World} (K : Kept w wx) (s : ByteArray) (hs : s.size ≤ 9000) : Calls Tryz.prog 19 #[.string s] wx fun e w' => e = .returned (.bool (sourceB s.data.toList)) ∧ Kept w w' :=
  (source_any s wx hs K.1).mono fun _ _ ⟨he, hb⟩ => ⟨he, K.next hb⟩
theorem code_k {w wx : World} (K : Kept w wx) (s : ByteArray) (i : Int) (hs : s.size ≤ 9000) : Calls Tryz.prog 59 #[.string s, .int .i64 i] wx fun e w' => e = .returned (.tuple #[.int .i64 (codeAt s i).1, .int .i64 (codeAt s i).2]) ∧ Kept w w' :=
  (code_any s i wx hs K.1).mono fun _ _ ⟨he, hb⟩ => ⟨he, K.next hb⟩
theorem eachP_good {p : Int → Bool} {l : List UInt8} (h : eachP p l = true) : goodB l = true := by
  rw [goodB_iff]
  unfold eachP at h
  cases hc : codes l with
  | none => rw [hc] at h; cases h
  | some cs => rfl
theorem eachP_append {p : Int → Bool} {l t : List UInt8} (h : goodB l = true) : eachP p (l ++ t) = (eachP p l && eachP p t) := by
  rw [goodB_iff] at h
  cases hc : codes l with
  | none => rw [hc] at h; cases h
  | some cs =>
    unfold eachP
    rw [codes_append hc, hc]
    cases codes t with
    | none => simp
    | some ct => simp
theorem cat_bytes (s t : ByteArray) : (s ++ t).data.toList = s.data.toList ++ t.data.toList := by simp
end Go.Proofs.YtcdcfhplkimecaaGreatDoor
/- The walk of letters.Units: the units of a text's code points, in new memory. -/
namespace Go.Proofs.YtcdcfhplkimecaaGreatDoor
open Go.RowKit

/-- The variable in block b holds a slice of the call's own that reads as us. -/
def OutAt (b : Nat) (us : List Int) (w : World) : Prop :=
  ∃ v, w.heap[b]? = some (.cells #[v] 80 (0, 0)) ∧ w.ownsRow (b + 1) 3 1 v us.length (us.map (Value.int .i64))
theorem OutAt.lt {b : Nat} {us : List Int} {w : World} (h : OutAt b us w) : b < w.heap.size := by
  obtain ⟨v, hb, _⟩ := h
  rcases Nat.lt_or_ge b w.heap.size with h' | h'
  · exact h'
  · rw [Array.getElem?_eq_none h'] at hb; cases hb
theorem grown_of {w w' : World} (h : Below w.heap.size w w') : w.grownBy w' none := ⟨h.os, h.tape, h.output, h.size, fun i hi _ => h.block i hi⟩
theorem own_none (v : Value) : v.ownBlock = none ∨ v.ownBlock ≠ none := Classical.em _
theorem OutAt.below {b : Nat} {us : List Int} {w w' : World} (h : OutAt b us w) (hb : Below w.heap.size w w') : OutAt b us w' := by
  have hl := h.lt
  obtain ⟨v, h1, h2⟩ := h
  exact ⟨v, (hb.block b hl).trans h1, h2.kept (grown_of hb) (own_none _)⟩

theorem heap_alloc_lt (w : World) (o : Obj) (b : Nat) (h : b < w.heap.size) : (w.alloc o).heap[b]? = w.heap[b]? := Below.heap_alloc w o b h
theorem own_form {w : World} {base : Nat} {e : TypeId} {v : Value} {n : Nat} {xs : List Value} (h : w.ownsRow base e 1 v n xs) : ∃ A cap, v = .slice A n cap := by
  rcases h.2 with ⟨hv, hn⟩ | ⟨g, cap, cur, hv, _⟩
  · exact ⟨none, 0, by rw [hv, hn]⟩
  · exact ⟨_, _, hv⟩
theorem box_kept {w w3 : World} {b n : Nat} {o : Obj} {x v : Value} {e T : TypeId} {xs : List Value} (hb : w.heap[b]? = some (.cells #[x] T (0, 0))) (hlt : b < w.heap.size) (hown : w.ownsRow (b + 1) e 1 v n xs) (hg : (w.alloc o).grownBy w3 v.ownBlock) :
    w3.cell? ⟨b, 0, none⟩ = some x ∧ w3.frozen? ⟨b, 0, none⟩ = false ∧ Hid (w3.heap[b]? = some (.cells #[x] T (0, 0))) := by
  have hb3 : w3.heap[b]? = some (.cells #[x] T (0, 0)) := by
    rw [hg.block b (by simp; omega) (fun e => by have := (hown.lt b e.symm).1; omega), heap_alloc_lt w _ b hlt]
    exact hb
  exact ⟨by simp [World.cell?, hb3], by simp [World.frozen?, hb3], Lib.hid hb3⟩
theorem two_new (w : World) (t : TypeId) (x y : Value) : ∀ (j : Nat) u, [x, y][j]? = some u → (w.alloc (.cells #[x, y] t)).cell? ((⟨w.heap.size, 0, none⟩ : Addr).add j) = some u := by
  intro j u hj
  match j, hj with
  | 0, hj => cases hj; show World.cell? _ ⟨w.heap.size, 0, none⟩ = _; rw [World.cell?_alloc_at _ _ _ _ rfl]; rfl
  | 1, hj => cases hj; show World.cell? _ ⟨w.heap.size, 1, none⟩ = _; rw [World.cell?_alloc_at _ _ _ _ rfl]; rfl
  | j + 2, hj => simp at hj

set_option maxRecDepth 100000 in
theorem unitFn (b : Nat) (us : List Int) (c : Int) (w : World) (hO : OutAt b us w) (hlen : us.length ≤ 100000) (h0 : 0 ≤ c) (h1 : c ≤ 1114111) :
    Calls Tryz.prog 76 #[.int .i64 c, .pointer (some ⟨b, 0, none⟩)] w fun e w' => e = .returned (.bool true) ∧ OutAt b (us ++ unitOf c) w' ∧ Below b w w' := by
  have hi9 : (Tryz.prog.info? 3).map (fun i => (i.zero, i.size, i.bytes)) = some (some (.int .i64 0), 1, 8) := by kernel_rfl
  obtain ⟨i0, hi, hx⟩ := Option.map_eq_some_iff.1 hi9
  simp only [Prod.mk.injEq] at hx
  obtain ⟨hz0, hz1, hz2⟩ := hx
  clear hi9
  have hlt := hO.lt
  obtain ⟨v, hb, hown⟩ := hO
  obtain ⟨A, cap, rfl⟩ := own_form hown
  have c0 : w.cell? ⟨b, 0, none⟩ = some (.slice A us.length cap) := by simp [World.cell?, hb]
  by_cases h6 : 65536 ≤ c
  · have g1 : 0 ≤ c - 65536 := by omega
    have g2 : c - 65536 ≤ 1048575 := by omega
    have hu : Hid (unitOf c = [55296 + (c - 65536) / 1024, 56320 + (c - 65536) % 1024]) := Lib.hid (by unfold unitOf; rw [if_neg (by omega)])
    have HB := Lib.hid hb
    clear hb
    go_enter Tryz.func76, Tryz.ntmps76
    go_wp2_with (at_builtin; refine wpList_append_own _ rfl _ _ 80 rfl (b + 1) 3 i0 (.int .i64 0) 1 8 Tryz.underlying80 hi hz0 hz1 hz2 rfl (by decide) _ _ _ rfl (hown.alloc _) ⟨w.heap.size, 0, none⟩ 2 2 [.int .i64 (55296 + (c - 65536) / 1024), .int .i64 (56320 + (c - 65536) % 1024)] rfl rfl (two_new _ _ _ _) (by intro x hx; simp at hx; rcases hx with rfl | rfl <;> rfl) (by unfold maxLen; omega) (by omega) (by simp; omega) ?_; intro v' w3 hown' hgrow _; obtain ⟨A', cap', rfl⟩ := own_form hown'; obtain ⟨c3, f3, HB3⟩ := box_kept HB.out hlt hown hgrow; have HG := Lib.hid hgrow; have HO := Lib.hid hown'; have HW := Lib.hid hown; clear hgrow hown' hown)
    go_ret
    refine ⟨rfl, ⟨.slice A' (us.length + 2) cap', ?_, ?_⟩, ?_⟩
    · simp [World.setCell, Array.getElem?_modify, HB3.out]
    · rw [hu.out, List.map_append, List.length_append]
      exact ownsRow_setCell_below HO.out (a := ⟨b, 0, none⟩) (by simp) _
    · exact ((((Below.refl _ _).alloc (by omega) _).grown HG.out (by simp; omega) (fun k hk => by have := (HW.out.lt k hk).1; omega)).setCell (by simp) _)
  · have hu : Hid (unitOf c = [c]) := Lib.hid (by unfold unitOf; rw [if_pos (by omega)])
    have HB := Lib.hid hb
    clear hb
    go_enter Tryz.func76, Tryz.ntmps76
    go_wp2_with (at_builtin; refine wpList_append_own _ rfl _ _ 80 rfl (b + 1) 3 i0 (.int .i64 0) 1 8 Tryz.underlying80 hi hz0 hz1 hz2 rfl (by decide) _ _ _ rfl (hown.alloc _) ⟨w.heap.size, 0, none⟩ 1 1 [.int .i64 c] rfl rfl (cell_one_new _ _ _) (by intro x hx; simp at hx; rcases hx with rfl; rfl) (by unfold maxLen; omega) (by omega) (by simp; omega) ?_; intro v' w3 hown' hgrow _; obtain ⟨A', cap', rfl⟩ := own_form hown'; obtain ⟨c3, f3, HB3⟩ := box_kept HB.out hlt hown hgrow; have HG := Lib.hid hgrow; have HO := Lib.hid hown'; have HW := Lib.hid hown; clear hgrow hown' hown)
    go_ret
    refine ⟨rfl, ⟨.slice A' (us.length + 1) cap', ?_, ?_⟩, ?_⟩
    · simp [World.setCell, Array.getElem?_modify, HB3.out]
    · rw [hu.out, List.map_append, List.length_append]
      exact ownsRow_setCell_below HO.out (a := ⟨b, 0, none⟩) (by simp) _
    · exact ((((Below.refl _ _).alloc (by omega) _).grown HG.out (by simp; omega) (fun k hk => by have := (HW.out.lt k hk).1; omega)).setCell (by simp) _)

def UnitsTo (l : List UInt8) (k : Nat) (b : Nat) (w : World) : Prop := ∃ cs, cs.length ≤ k ∧ OutAt b (unitsOf cs) w ∧ (codes (l.drop k)).map (fun r => cs ++ r) = codes l
theorem unitsOf_len : ∀ cs : List Int, (unitsOf cs).length ≤ 2 * cs.length := by
  intro cs
  induction cs with
  | nil => simp [unitsOf]
  | cons c cs ih =>
    show (unitOf c ++ unitsOf cs).length ≤ _
    rw [List.length_append, List.length_cons]
    have : (unitOf c).length ≤ 2 := by unfold unitOf; split <;> simp
    omega
theorem unitsOf_snoc (cs : List Int) (c : Int) : unitsOf (cs ++ [c]) = unitsOf cs ++ unitOf c := by simp [unitsOf]

set_option maxRecDepth 100000 in
set_option maxHeartbeats 1000000 in
theorem each_units (s : ByteArray) (b : Nat) (w : World) (hs : s.size ≤ 9000) (ht : TabAt w) (h0 : OutAt b [] w) (hgb : 0 < b) :
    Calls Tryz.prog 37 #[.string s, .func (.func 76) #[] #[.pointer (some ⟨b, 0, none⟩)]] w fun e w' =>
      e = .returned (.bool (goodB s.data.toList)) ∧ Below b w w' ∧ (∃ cs, OutAt b (unitsOf cs) w' ∧ (goodB s.data.toList = true → codes s.data.toList = some cs)) := by
  have HT := Lib.hid ht
  clear ht
  have he := enters_of Tryz.func76 (by kernel_rfl) rfl
  have hlen : s.data.toList.length = s.size := Array.length_toList
  have HL := Lib.hid hlen
  clear hlen
  go_enter Tryz.func37, Tryz.ntmps37
  go_wp2
  go_loopg [5] s.size (fun g i wx => ∃ k : Nat, k + g = s.size ∧ i = .int .i64 k ∧ Below b w wx ∧ Aside (UnitsTo s.data.toList k b wx))
  case atStart => exact ⟨0, by omega, rfl, Below.refl _ _, Aside.intro ⟨[], by simp, h0, by simp⟩⟩
  case round =>
    obtain ⟨k, hk, rfl, hb, H⟩ := hrel
    cases gk with
    | zero =>
      obtain rfl : k = s.size := by omega
      obtain ⟨cs, hcl, hO, hE⟩ := H.out
      have hc : codes s.data.toList = some cs := by rw [← hE, List.drop_eq_nil_of_le (by rw [HL.out]; omega)]; simp [codes_nil]
      have h2 : Hid (goodB s.data.toList = true) := Lib.hid (by rw [goodB_iff, hc]; rfl)
      have hX := Lib.hid (⟨cs, hO, fun _ => hc⟩ : ∃ cs, OutAt b (unitsOf cs) wr ∧ (goodB s.data.toList = true → codes s.data.toList = some cs))
      clear H hO hE hc
      go_wp2
      go_ret
      exact ⟨ret_bool h2.out.symm, hb, hX.out⟩
    | succ g =>
      have hlt : k < s.size := by omega
      have hlt' : (k : Int) < (s.size : Int) := by omega
      have hne : Hid (s.data.toList.drop k ≠ []) := Lib.hid (fun e => by have := congrArg List.length e; rw [List.length_drop, HL.out] at this; simp at this; omega)
      have hdl : Hid ((s.data.toList.drop k).length = s.size - k) := Lib.hid (by rw [List.length_drop, HL.out])
      have hbd := dec_bd (s.data.toList.drop k)
      have hcode := code_in s k wr hs hlt (HT.out.below hb hgb)
      have hst := Lib.hid (codes_step (l := s.data.toList.drop k) hne.out)
      have hbad := Lib.hid (codes_bad (l := s.data.toList.drop k) hne.out)
      generalize dec (s.data.toList.drop k) = d at *
      obtain ⟨c, n⟩ := d
      simp only at hbd hcode hst hbad
      obtain ⟨b1, b2, b3, b4, b5, b6⟩ := hbd
      rw [hdl.out] at b3
      have HC := Lib.hid hcode
      clear hcode b6
      by_cases hn : n = 0
      · obtain ⟨cs, hcl, hO, hE⟩ := H.out
        have hc : codes s.data.toList = none := by rw [← hE, hbad.out hn]; rfl
        have h2 : Hid (goodB s.data.toList = false) := Lib.hid (by rw [goodB_iff, hc]; rfl)
        have HO := Lib.hid hO
        have z0 : (n == 0) = true := by simp [hn]
        clear H hst hbad hn hO hE hc
        go_wp2_with fail
        refine HC.out.mono ?_
        rintro e w1 ⟨rfl, hb1⟩
        go_wp2_with fail
        go_ret
        exact ⟨ret_bool h2.out.symm, hb.trans (hb1.mono (by have := HO.out.lt; omega)), ⟨cs, HO.out.below hb1, fun h => by rw [h2.out] at h; cases h⟩⟩
      · have z0 : (n == 0) = false := by simp [hn]
        obtain ⟨cs, hcl, hO, hE⟩ := H.out
        have hE' : Hid ((codes ((s.data.toList.drop k).drop n.toNat)).map (fun r => (cs ++ [c]) ++ r) = codes s.data.toList) := Lib.hid (by
          rw [← hE, hst.out hn, Option.map_map]
          congr 1
          funext r
          simp)
        have HO := Lib.hid hO
        have hn1 : 1 ≤ n := by omega
        have hul := unitsOf_len cs
        clear H hst hbad hn hO hE
        go_wp2_with fail
        refine HC.out.mono ?_
        rintro e w1 ⟨rfl, hb1⟩
        go_wp2_with fail
        refine (unitFn b (unitsOf cs) c w1 (HO.out.below hb1) (by omega) b4 b5).mono ?_
        rintro e w2 ⟨rfl, hO2, hb2⟩
        have hbl : Below b wr w2 := (hb1.mono (by have := HO.out.lt; omega)).trans hb2
        go_wp2_with fail
        obtain ⟨m, rfl⟩ := Int.eq_ofNat_of_zero_le b1
        go_roundg (s.size - (k + m))
        case measure => omega
        case rel => exact ⟨k + m, by omega, by go_num, hb.trans hbl, Aside.intro ⟨cs ++ [c], by rw [List.length_append]; simp; omega, by rw [unitsOf_snoc]; exact hO2, by rw [← hE'.out, List.drop_drop]; rfl⟩⟩

/-- The units of a text; none, if it is not good. -/
def unitsS (l : List UInt8) : List Int := match codes l with | some cs => unitsOf cs | none => []
theorem ints_of_own {w : World} {base n : Nat} {A : Option Addr} {cap : Nat} {us : List Int} (h : w.ownsRow base 3 1 (.slice A n cap) us.length (us.map (Value.int .i64))) : n = us.length ∧ IntsAt w w.heap.size A us.length us := by
  rcases h.2 with ⟨hv, hn⟩ | ⟨g, c, cur, hv, hbase, hh, hnc, hm, hcs, htk⟩
  · injection hv with h1 h2 h3
    have hus : us = [] := List.eq_nil_of_length_eq_zero hn
    subst hus
    exact ⟨by simpa using h2, ⟨rfl, fun j z hz => by simp at hz⟩⟩
  · have hv' := hv
    injection hv' with h1 h2 h3
    subst h1
    refine ⟨h2, rfl, fun j z hz => ⟨g, 0, rfl, ?_, ?_⟩⟩
    · exact (h.lt g rfl).2
    · subst h2 h3
      rw [Nat.zero_add, World.ownsRow.cellAt h j (by have := (List.getElem?_eq_some_iff.1 hz).1; omega), List.getElem?_map, hz]
      rfl

set_option maxRecDepth 100000 in
theorem units_any (s : ByteArray) (w : World) (hs : s.size ≤ 9000) (ht : TabAt w) :
    Calls Tryz.prog 58 #[.string s] w fun e w' => ∃ A c, e = .returned (.tuple #[.slice A (unitsS s.data.toList).length c, .bool (goodB s.data.toList)]) ∧ IntsAt w' w'.heap.size A (unitsS s.data.toList).length (unitsS s.data.toList) ∧ Below w.heap.size w w' := by
  have hmf : ∀ (fn : Fn) (first cap : Array Value) (w : World), (Instr.makeFunc fn first cap).run Tryz.prog w = .ok (.func fn first cap) w := fun _ _ _ _ => rfl
  have hO : OutAt w.heap.size [] (w.alloc (.cells #[.slice none 0 0] 80)) := ⟨.slice none 0 0, heap_alloc_new w _, World.ownsRow_nil _ _ _ _⟩
  have hb0 : Below w.heap.size w (w.alloc (.cells #[.slice none 0 0] 80)) := (Below.refl _ _).alloc (Nat.le_refl _) _
  have HE := Lib.hid (each_units s w.heap.size (w.alloc (.cells #[.slice none 0 0] 80)) hs (ht.below hb0 ht.lt) hO ht.lt)
  have HB0 := Lib.hid hb0
  clear ht hO hb0
  go_enter Tryz.func58, Tryz.ntmps58
  go_wp2_with fail
  refine HE.out.mono ?_
  rintro e w1 ⟨rfl, hb, cs, hO, hcs⟩
  have hB : Hid (Below w.heap.size w w1) := Lib.hid (HB0.out.trans hb)
  cases hg : goodB s.data.toList
  · have HG := Lib.hid hg
    have hu : Hid (unitsS s.data.toList = []) := Lib.hid (by
      rw [goodB_iff] at hg
      unfold unitsS
      cases hc : codes s.data.toList with
      | none => rfl
      | some cs => rw [hc] at hg; cases hg)
    clear hcs hO hb hg
    go_wp2_with fail
    go_ret2
    exact ⟨none, 0, by rw [hu.out, HG.out]; rfl, by rw [hu.out]; exact ⟨rfl, fun j z hz => by simp at hz⟩, hB.out⟩
  · have HG := Lib.hid hg
    have hu : Hid (unitsS s.data.toList = unitsOf cs) := Lib.hid (by unfold unitsS; rw [hcs hg])
    obtain ⟨v, hh, hown⟩ := hO
    obtain ⟨A, cap, rfl⟩ := own_form hown
    have c0 : w1.cell? ⟨w.heap.size, 0, none⟩ = some (.slice A (unitsOf cs).length cap) := by simp [World.cell?, hh]
    have hI := Lib.hid (ints_of_own hown).2
    clear hcs hh hown hb hg
    go_wp2_with fail
    go_ret2
    exact ⟨A, cap, by rw [hu.out, HG.out]; rfl, by rw [hu.out]; exact hI.out, hB.out⟩
end Go.Proofs.YtcdcfhplkimecaaGreatDoor
