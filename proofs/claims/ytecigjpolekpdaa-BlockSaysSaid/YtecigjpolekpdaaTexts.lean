/- The walks of seinekeep.Texts and TextsStay. -/
import Derived.Test.YtecigjpolekpdaaSameTexts
namespace Go.Proofs.Ytecigjpolekpdaa
open Go.RowKit

def markS : ByteArray := ⟨#[109, 97, 114, 107]⟩
/-- What Texts hands back: a slice of the call's own that reads as zs, with one string more behind its length. -/
def Copied (w w' : World) (n : Nat) (zs : List ByteArray) (e : Ending) : Prop :=
  ∃ g cap, e = .returned (.slice (some ⟨g, 0, none⟩) n cap) ∧ n + 1 ≤ cap ∧ StrsAt w' w'.heap.size (some ⟨g, 0, none⟩) (n + 1) (zs ++ [markS]) ∧ Below w.heap.size w w'
theorem texts_own_more {w : World} {base n : Nat} {A : Option Addr} {cap : Nat} {zs : List ByteArray} (h : w.ownsRow base 9 1 (.slice A (n + 1) cap) (n + 1) (zs.map (Value.string) ++ [.string ⟨#[109, 97, 114, 107]⟩])) : ∃ g, A = some ⟨g, 0, none⟩ ∧ (n : Int) + 1 ≤ (cap : Int) ∧ Hid (StrsAt w w.heap.size A (n + 1) (zs ++ [markS])) := by
  have e : zs.map (Value.string) ++ [.string ⟨#[109, 97, 114, 107]⟩] = (zs ++ [markS]).map (Value.string) := by simp [markS]
  rw [e] at h
  obtain ⟨g, h1, _, h3, h4⟩ := strs_own_cap h (by omega)
  exact ⟨g, h1, by omega, Lib.hid h4⟩
theorem texts_ret {w w' : World} {n g cap : Nat} {zs : List ByteArray} (hc : (n : Int) + 1 ≤ (cap : Int)) (hI : StrsAt w' w'.heap.size (some ⟨g, 0, none⟩) (n + 1) (zs ++ [markS])) (hb : Below w.heap.size w w') : Copied w w' n zs (.returned (.slice (some ⟨g, 0, none⟩) n cap)) := ⟨g, cap, rfl, by omega, hI, hb⟩

theorem oneMark : ∀ u ∈ [Value.string ⟨#[109, 97, 114, 107]⟩], u.oneCell' = true := by simp [Value.oneCell']

set_option maxRecDepth 100000 in
set_option maxHeartbeats 1000000 in
theorem texts_some (ad : Addr) (n c : Nat) (zs : List ByteArray) (w : World) (hn : n ≤ 3000) (hz : StrsAt w w.heap.size (some ad) n zs) :
    Calls Try.prog 16 #[.slice (some ad) n c] w fun e w' => Copied w w' n zs e := by
  have hi9 : (Try.prog.info? 9).map (fun i => (i.zero, i.size, i.bytes)) = some (some (.string ByteArray.empty), 1, 16) := by kernel_rfl
  obtain ⟨i0, hi, hx⟩ := Option.map_eq_some_iff.1 hi9
  simp only [Prod.mk.injEq] at hx
  obtain ⟨hz0, hz1, hz2⟩ := hx
  clear hi9
  obtain ⟨w1, hmk, hown0, hg0⟩ := run_make_own (P := Try.prog) (w := w) w.heap.size 23 9 i0 (.string ByteArray.empty) 1 Try.underlying23 hi hz0 hz1 .i64 .i64 (n + 1) (by rw [hz2]; omega) (by unfold maxLen; omega) (Nat.le_refl _)
  have hlen1 : (zs.map (Value.string)).length = n * 1 := by rw [List.length_map, hz.1]; omega
  have hnews : ∀ j u, (zs.map (Value.string))[j]? = some u → w1.cell? (ad.add j) = some u := by
    intro j u hj
    rw [List.getElem?_map, Option.map_eq_some_iff] at hj
    obtain ⟨z, hzj, rfl⟩ := hj
    obtain ⟨b, o, e, hlt, hc⟩ := hz.2 j z hzj
    injection e with e
    subst e
    have : (⟨b, o, none⟩ : Addr).add j = ⟨b, o + j, none⟩ := by unfold Addr.add; split <;> simp_all
    rw [this, World.cell?_of_block (hg0.block b hlt (by simp))]
    exact hc
  have hone : ∀ u ∈ zs.map (Value.string), u.oneCell' = true := by
    intro u hu
    obtain ⟨z, _, rfl⟩ := List.mem_map.1 hu
    rfl
  have hsz1 : w.heap.size ≤ w1.heap.size := hg0.size
  have HG0 := Lib.hid hg0
  have hcast : ((n : Int) + 1) = ((n + 1 : Nat) : Int) := by omega
  rw [← hcast] at hmk
  have hml : n + 2 ≤ maxLen := by unfold maxLen; omega
  have hml0 : 0 + n ≤ maxLen := by unfold maxLen; omega
  clear hg0 hz hcast
  go_enter Try.func16, Try.ntmps16
  go_wp2_with (first
    | (at_builtin; (with_reducible refine wpList_append_own _ rfl _ _ 23 rfl w.heap.size 9 i0 (.string ByteArray.empty) 1 16 Try.underlying23 hi hz0 hz1 hz2 rfl (by decide) (.slice (some ⟨w.heap.size, 0, none⟩) 0 (n + 1)) 0 [] rfl hown0 ad n c (zs.map (Value.string)) rfl hlen1 hnews hone hml0 (by omega) hsz1 ?_); intro v2 w2 hown2 hgrow2 _; rw [Nat.zero_add, List.nil_append] at hown2; obtain ⟨A2, cap2, rfl⟩ := own_form hown2; have HG2 := Lib.hid hgrow2; have hs2 := hgrow2.size; clear hgrow2)
    | (at_builtin; (with_reducible refine wpList_append_own _ rfl _ _ 23 rfl w.heap.size 9 i0 (.string ByteArray.empty) 1 16 Try.underlying23 hi hz0 hz1 hz2 rfl (by decide) (.slice A2 n cap2) n (zs.map (Value.string)) rfl (hown2.alloc _) ⟨w2.heap.size, 0, none⟩ 1 1 [.string ⟨#[109, 97, 114, 107]⟩] rfl rfl (cell_one_new _ _ _) oneMark (by omega) (by omega) (by simp; omega) ?_); intro v3 w3 hown3 hgrow3 _; obtain ⟨A3, cap3, rfl⟩ := own_form hown3; obtain ⟨g3, rfl, hcap3, HI3⟩ := texts_own_more hown3; have HG3 := Lib.hid hgrow3; have HO2 := Lib.hid hown2; clear hgrow3 hown3 hown2)
    | fail)
  go_ret
  exact texts_ret hcap3 HI3.out ((((Below.refl _ _).grown HG0.out (Nat.le_refl _) (by simp)).grown HG2.out (by omega) (fun k hk => by cases hk; exact Nat.le_refl _)).alloc (by omega) _ |>.grown HG3.out (by simp; omega) (fun k hk => (HO2.out.lt k hk).1))

set_option maxRecDepth 100000 in
set_option maxHeartbeats 1000000 in
theorem texts_none (w : World) : Calls Try.prog 16 #[.slice none 0 0] w fun e w' => Copied w w' 0 [] e := by
  have hi9 : (Try.prog.info? 9).map (fun i => (i.zero, i.size, i.bytes)) = some (some (.string ByteArray.empty), 1, 16) := by kernel_rfl
  obtain ⟨i0, hi, hx⟩ := Option.map_eq_some_iff.1 hi9
  simp only [Prod.mk.injEq] at hx
  obtain ⟨hz0, hz1, hz2⟩ := hx
  clear hi9
  obtain ⟨w1, hmk, hown0, hg0⟩ := run_make_own (P := Try.prog) (w := w) w.heap.size 23 9 i0 (.string ByteArray.empty) 1 Try.underlying23 hi hz0 hz1 .i64 .i64 1 (by rw [hz2]; omega) (by unfold maxLen; omega) (Nat.le_refl _)
  have hsz1 : w.heap.size ≤ w1.heap.size := hg0.size
  have HG0 := Lib.hid hg0
  have hml : 0 + 1 ≤ maxLen := by unfold maxLen; omega
  have hmk' : (Instr.makeSlice 23 (.int .i64 0) (.int .i64 1)).run Try.prog w = .ok (.slice (some ⟨w.heap.size, 0, none⟩) 0 1) w1 := hmk
  clear hg0 hmk
  go_enter Try.func16, Try.ntmps16
  go_wp2_with (first
    | (at_builtin; (with_reducible refine wpList_append_own_none _ _ _ rfl w.heap.size 9 i0 1 Try.underlying23 hi (.slice (some ⟨w.heap.size, 0, none⟩) 0 1) 0 [] rfl hown0 rfl ?_))
    | (at_builtin; (with_reducible refine wpList_append_own _ rfl _ _ 23 rfl w.heap.size 9 i0 (.string ByteArray.empty) 1 16 Try.underlying23 hi hz0 hz1 hz2 rfl (by decide) (.slice (some ⟨w.heap.size, 0, none⟩) 0 1) 0 [] rfl (hown0.alloc _) ⟨w1.heap.size, 0, none⟩ 1 1 [.string ⟨#[109, 97, 114, 107]⟩] rfl rfl (cell_one_new _ _ _) oneMark hml (by omega) (by simp; omega) ?_); intro v3 w3 hown3 hgrow3 _; obtain ⟨A3, cap3, rfl⟩ := own_form hown3; obtain ⟨g3, rfl, hcap3, HI3⟩ := texts_own_more (n := 0) (zs := []) hown3; have HG3 := Lib.hid hgrow3; have HO2 := Lib.hid hown0; clear hgrow3 hown3 hown0)
    | fail)
  go_ret
  exact texts_ret (n := 0) (zs := []) hcap3 HI3.out (((Below.refl _ _).grown HG0.out (Nat.le_refl _) (by simp)).alloc (by omega) _ |>.grown HG3.out (by simp; omega) (fun k hk => (HO2.out.lt k hk).1))

theorem same_same (A B : Option Addr) (n c d : Nat) (zs : List ByteArray) (w : World) (hn : n ≤ 100000) (ha : StrsAt w w.heap.size A n zs) (hb : StrsAt w w.heap.size B n zs) :
    Calls Try.prog 11 #[.slice A n c, .slice B n d] w fun e w' => e = .returned (.bool true) ∧ Below w.heap.size w w' :=
  (sameTexts_any A B n n c d zs zs w hn ha hb).mono fun _ _ ⟨he, h⟩ => ⟨he.trans (ret_bool (decide_eq_true rfl)), h⟩

set_option maxRecDepth 100000 in
theorem stay_any (g n cap c : Nat) (A : Option Addr) (zs : List ByteArray) (w : World) (hn : n ≤ 3000) (hc : n + 1 ≤ cap) (hI : StrsAt w w.heap.size (some ⟨g, 0, none⟩) (n + 1) (zs ++ [markS])) (hz : StrsAt w w.heap.size A n zs) :
    Calls Try.prog 17 #[.slice (some ⟨g, 0, none⟩) n cap, .slice A n c] w fun e w' => e = .returned (.bool true) ∧ Below w.heap.size w w' := by
  have HS := Lib.hid (same_same (some ⟨g, 0, none⟩) A n cap c zs w (by omega) hI.init hz)
  have HI := Lib.hid hI
  have hlz : Hid (zs.length = n) := Lib.hid hz.1
  have hc1 : (n : Int) + 1 ≤ (cap : Int) := by omega
  have hn0 : (0 : Int) ≤ (n : Int) := by omega
  clear hI hz
  go_enter Try.func17, Try.ntmps17
  go_wp2_with fail
  refine HS.out.mono ?_
  rintro e w1 ⟨rfl, hb⟩
  obtain ⟨b, o, e, _, hcell⟩ := (HI.out.on hb).2 n markS (by rw [List.getElem?_append_right (by rw [hlz.out]; exact Nat.le_refl _), hlz.out]; simp)
  injection e with e
  injection e with e1 e2
  subst e1 e2
  rw [Nat.zero_add] at hcell
  unfold markS at hcell
  have HB := Lib.hid hb
  clear hb
  go_wp2_with fail
  go_ret
  exact ⟨rfl, HB.out⟩
end Go.Proofs.Ytecigjpolekpdaa
