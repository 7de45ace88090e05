/- The walks of seinekeep.Ints and IntsStay, and of the law LettersJoins, at every input. -/
import Derived.Test.YtkddbmdjcjldgaaDoorRJoin
import Derived.Test.YtkddbmdjcjldgaaDoorSame
import Derived.Test.YtkddbmdjcjldgaaDoorSlice
import Derived.Laws.MakeOwn
import Derived.Laws.AppendOwnNone
namespace Go.Proofs.YtkddbmdjcjldgaaDoor
open Go.RowKit

theorem IntsAt.thence {w w' : World} {A : Option Addr} {n : Nat} {zs : List Int} (h : IntsAt w w.heap.size A n zs) (hb : Below w.heap.size w w') : IntsAt w' w'.heap.size A n zs := (h.below hb).more hb.size
theorem IntsAt.init {w : World} {B n : Nat} {A : Option Addr} {zs : List Int} {y : Int} (h : IntsAt w B A (n + 1) (zs ++ [y])) : IntsAt w B A n zs := by
  have hl : zs.length = n := by have := h.1; rw [List.length_append] at this; simpa using this
  refine ⟨hl, fun j z hz => h.2 j z ?_⟩
  rw [List.getElem?_append_left (List.getElem?_eq_some_iff.1 hz).1]
  exact hz
/-- What Ints hands back: a slice of the call's own that reads as zs, with one number more behind its length. -/
def Copied (w w' : World) (n : Nat) (zs : List Int) (e : Ending) : Prop :=
  ∃ g cap, e = .returned (.slice (some ⟨g, 0, none⟩) n cap) ∧ n + 1 ≤ cap ∧ IntsAt w' w'.heap.size (some ⟨g, 0, none⟩) (n + 1) (zs ++ [77]) ∧ Below w.heap.size w w'
theorem ints_own_cap {w : World} {base n m : Nat} {A : Option Addr} {cap : Nat} {us : List Int} (h : w.ownsRow base 3 1 (.slice A m cap) n (us.map (Value.int .i64))) (hn : 0 < n) : ∃ g, A = some ⟨g, 0, none⟩ ∧ m = n ∧ n ≤ cap ∧ IntsAt w w.heap.size A n us := by
  have hl : us.length = n := by have := h.1; rw [List.length_map] at this; omega
  subst hl
  rcases h.2 with ⟨_, h0⟩ | ⟨g, c, cur, hv, _, _, hnc, _⟩
  · omega
  · have hi := ints_of_own h
    injection hv with h1 h2 h3
    exact ⟨g, h1, h2, by omega, hi.2⟩

theorem ints_own_more {w : World} {base n : Nat} {A : Option Addr} {cap : Nat} {zs : List Int} (h : w.ownsRow base 3 1 (.slice A (n + 1) cap) (n + 1) (zs.map (Value.int .i64) ++ [.int .i64 77])) : ∃ g, A = some ⟨g, 0, none⟩ ∧ (n : Int) + 1 ≤ (cap : Int) ∧ Hid (IntsAt w w.heap.size A (n + 1) (zs ++ [77])) := by
  have e : zs.map (Value.int .i64) ++ [.int .i64 77] = (zs ++ [77]).map (Value.int .i64) := by simp
  rw [e] at h
  obtain ⟨g, h1, _, h3, h4⟩ := ints_own_cap h (by omega)
  exact ⟨g, h1, by omega, Lib.hid h4⟩
theorem ints_ret {w w' : World} {n g cap : Nat} {zs : List Int} (hc : (n : Int) + 1 ≤ (cap : Int)) (hI : IntsAt w' w'.heap.size (some ⟨g, 0, none⟩) (n + 1) (zs ++ [77])) (hb : Below w.heap.size w w') : Copied w w' n zs (.returned (.slice (some ⟨g, 0, none⟩) n cap)) := ⟨g, cap, rfl, by omega, hI, hb⟩

theorem one77 : ∀ u ∈ [Value.int .i64 77], u.oneCell' = true := by simp [Value.oneCell']

set_option maxRecDepth 100000 in
set_option maxHeartbeats 1000000 in
theorem ints_some (ad : Addr) (n c : Nat) (zs : List Int) (w : World) (hn : n ≤ 3000) (hz : IntsAt w w.heap.size (some ad) n zs) :
    Calls Tryd.prog 21 #[.slice (some ad) n c] w fun e w' => Copied w w' n zs e := by
  have hi9 : (Tryd.prog.info? 3).map (fun i => (i.zero, i.size, i.bytes)) = some (some (.int .i64 0), 1, 8) := by kernel_rfl
  obtain ⟨i0, hi, hx⟩ := Option.map_eq_some_iff.1 hi9
  simp only [Prod.mk.injEq] at hx
  obtain ⟨hz0, hz1, hz2⟩ := hx
  clear hi9
  obtain ⟨w1, hmk, hown0, hg0⟩ := run_make_own (P := Tryd.prog) (w := w) w.heap.size 25 3 i0 (.int .i64 0) 1 Tryd.underlying25 hi hz0 hz1 .i64 .i64 (n + 1) (by rw [hz2]; omega) (by unfold maxLen; omega) (Nat.le_refl _)
  have hlen1 : (zs.map (Value.int .i64)).length = n * 1 := by rw [List.length_map, hz.1]; omega
  have hnews : ∀ j u, (zs.map (Value.int .i64))[j]? = some u → w1.cell? (ad.add j) = some u := by
    intro j u hj
    rw [List.getElem?_map, Option.map_eq_some_iff] at hj
    obtain ⟨z, hzj, rfl⟩ := hj
    obtain ⟨b, o, e, hlt, hc⟩ := hz.2 j z hzj
    injection e with e
    subst e
    have : (⟨b, o, none⟩ : Addr).add j = ⟨b, o + j, none⟩ := by unfold Addr.add; split <;> simp_all
    rw [this, World.cell?_of_block (hg0.block b hlt (by simp))]
    exact hc
  have hone : ∀ u ∈ zs.map (Value.int .i64), u.oneCell' = true := by
    intro u hu
    obtain ⟨z, _, rfl⟩ := List.mem_map.1 hu
    rfl
  have hsz1 : w.heap.size ≤ w1.heap.size := hg0.size
  have HG0 := Lib.hid hg0
  have hcast : ((n : Int) + 1) = ((n + 1 : Nat) : Int) := by omega
  rw [← hcast] at hmk
  have hml : n + 2 ≤ maxLen := by unfold maxLen; omega
  have hml0 : 0 + n ≤ maxLen := by unfold maxLen; omega
  clear hg0 hz hcast
  go_enter Tryd.func21, Tryd.ntmps21
  go_wp2_with (first
    | (at_builtin; (with_reducible refine wpList_append_own _ rfl _ _ 25 rfl w.heap.size 3 i0 (.int .i64 0) 1 8 Tryd.underlying25 hi hz0 hz1 hz2 rfl (by decide) (.slice (some ⟨w.heap.size, 0, none⟩) 0 (n + 1)) 0 [] rfl hown0 ad n c (zs.map (Value.int .i64)) rfl hlen1 hnews hone hml0 (by omega) hsz1 ?_); intro v2 w2 hown2 hgrow2 _; rw [Nat.zero_add, List.nil_append] at hown2; obtain ⟨A2, cap2, rfl⟩ := own_form hown2; have HG2 := Lib.hid hgrow2; have hs2 := hgrow2.size; clear hgrow2)
    | (at_builtin; (with_reducible refine wpList_append_own _ rfl _ _ 25 rfl w.heap.size 3 i0 (.int .i64 0) 1 8 Tryd.underlying25 hi hz0 hz1 hz2 rfl (by decide) (.slice A2 n cap2) n (zs.map (Value.int .i64)) rfl (hown2.alloc _) ⟨w2.heap.size, 0, none⟩ 1 1 [.int .i64 77] rfl rfl (cell_one_new _ _ _) one77 (by omega) (by omega) (by simp; omega) ?_); intro v3 w3 hown3 hgrow3 _; obtain ⟨A3, cap3, rfl⟩ := own_form hown3; obtain ⟨g3, rfl, hcap3, HI3⟩ := ints_own_more hown3; have HG3 := Lib.hid hgrow3; have HO2 := Lib.hid hown2; clear hgrow3 hown3 hown2)
    | fail)
  go_ret
  exact ints_ret hcap3 HI3.out ((((Below.refl _ _).grown HG0.out (Nat.le_refl _) (by simp)).grown HG2.out (by omega) (fun k hk => by cases hk; exact Nat.le_refl _)).alloc (by omega) _ |>.grown HG3.out (by simp; omega) (fun k hk => (HO2.out.lt k hk).1))

set_option maxRecDepth 100000 in
set_option maxHeartbeats 1000000 in
theorem ints_none (w : World) : Calls Tryd.prog 21 #[.slice none 0 0] w fun e w' => Copied w w' 0 [] e := by
  have hi9 : (Tryd.prog.info? 3).map (fun i => (i.zero, i.size, i.bytes)) = some (some (.int .i64 0), 1, 8) := by kernel_rfl
  obtain ⟨i0, hi, hx⟩ := Option.map_eq_some_iff.1 hi9
  simp only [Prod.mk.injEq] at hx
  obtain ⟨hz0, hz1, hz2⟩ := hx
  clear hi9
  obtain ⟨w1, hmk, hown0, hg0⟩ := run_make_own (P := Tryd.prog) (w := w) w.heap.size 25 3 i0 (.int .i64 0) 1 Tryd.underlying25 hi hz0 hz1 .i64 .i64 1 (by rw [hz2]; omega) (by unfold maxLen; omega) (Nat.le_refl _)
  have hsz1 : w.heap.size ≤ w1.heap.size := hg0.size
  have HG0 := Lib.hid hg0
  have hml : 0 + 1 ≤ maxLen := by unfold maxLen; omega
  have hmk' : (Instr.makeSlice 25 (.int .i64 0) (.int .i64 1)).run Tryd.prog w = .ok (.slice (some ⟨w.heap.size, 0, none⟩) 0 1) w1 := hmk
  clear hg0 hmk
  go_enter Tryd.func21, Tryd.ntmps21
  go_wp2_with (first
    | (at_builtin; (with_reducible refine wpList_append_own_none _ _ _ rfl w.heap.size 3 i0 1 Tryd.underlying25 hi (.slice (some ⟨w.heap.size, 0, none⟩) 0 1) 0 [] rfl hown0 rfl ?_))
    | (at_builtin; (with_reducible refine wpList_append_own _ rfl _ _ 25 rfl w.heap.size 3 i0 (.int .i64 0) 1 8 Tryd.underlying25 hi hz0 hz1 hz2 rfl (by decide) (.slice (some ⟨w.heap.size, 0, none⟩) 0 1) 0 [] rfl (hown0.alloc _) ⟨w1.heap.size, 0, none⟩ 1 1 [.int .i64 77] rfl rfl (cell_one_new _ _ _) one77 hml (by omega) (by simp; omega) ?_); intro v3 w3 hown3 hgrow3 _; obtain ⟨A3, cap3, rfl⟩ := own_form hown3; obtain ⟨g3, rfl, hcap3, HI3⟩ := ints_own_more (n := 0) (zs := []) hown3; have HG3 := Lib.hid hgrow3; have HO2 := Lib.hid hown0; clear hgrow3 hown3 hown0)
    | fail)
  go_ret
  exact ints_ret (n := 0) (zs := []) hcap3 HI3.out (((Below.refl _ _).grown HG0.out (Nat.le_refl _) (by simp)).alloc (by omega) _ |>.grown HG3.out (by simp; omega) (fun k hk => (HO2.out.lt k hk).1))

theorem same_same (A B : Option Addr) (n c d : Nat) (zs : List Int) (w : World) (hn : n ≤ 100000) (ha : IntsAt w w.heap.size A n zs) (hb : IntsAt w w.heap.size B n zs) :
    Calls Tryd.prog 20 #[.slice A n c, .slice B n d] w fun e w' => e = .returned (.bool true) ∧ Below w.heap.size w w' :=
  (sameInts_any A B n n c d zs zs w hn ha hb).mono fun _ _ ⟨he, h⟩ => ⟨he.trans (ret_bool (decide_eq_true rfl)), h⟩

set_option maxRecDepth 100000 in
theorem stay_any (g n cap c : Nat) (A : Option Addr) (zs : List Int) (w : World) (hn : n ≤ 3000) (hc : n + 1 ≤ cap) (hI : IntsAt w w.heap.size (some ⟨g, 0, none⟩) (n + 1) (zs ++ [77])) (hz : IntsAt w w.heap.size A n zs) :
    Calls Tryd.prog 24 #[.slice (some ⟨g, 0, none⟩) n cap, .slice A n c] w fun e w' => e = .returned (.bool true) ∧ Below w.heap.size w w' := by
  have HS := Lib.hid (same_same (some ⟨g, 0, none⟩) A n cap c zs w (by omega) hI.init hz)
  have HI := Lib.hid hI
  have hlz : Hid (zs.length = n) := Lib.hid hz.1
  have hc1 : (n : Int) + 1 ≤ (cap : Int) := by omega
  have hn0 : (0 : Int) ≤ (n : Int) := by omega
  clear hI hz
  go_enter Tryd.func24, Tryd.ntmps24
  go_wp2_with fail
  refine HS.out.mono ?_
  rintro e w1 ⟨rfl, hb⟩
  obtain ⟨b, o, e, _, hcell⟩ := (HI.out.thence hb).2 n 77 (by rw [List.getElem?_append_right (by rw [hlz.out]; exact Nat.le_refl _), hlz.out]; simp)
  injection e with e
  injection e with e1 e2
  subst e1 e2
  rw [Nat.zero_add] at hcell
  have HB := Lib.hid hb
  clear hb
  go_wp2_with fail
  go_ret
  exact ⟨rfl, HB.out⟩
end Go.Proofs.YtkddbmdjcjldgaaDoor
