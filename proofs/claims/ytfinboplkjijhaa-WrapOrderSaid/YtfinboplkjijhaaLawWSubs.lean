/- The walk of the law WrapSubs. -/
import Derived.Test.YtfinboplkjijhaaLawWItems
namespace Go.Proofs.Ytfinboplkjijhaa
open Go.RowKit

set_option maxRecDepth 100000 in
set_option maxHeartbeats 2000000 in
theorem subs_big (n : ByteArray) (l m : Int) (n' : ByteArray) (l' m' : Int) (w : World) (h : 2000 < n.size ∨ 2000 < n'.size) : Calls Try.prog 4 #[.agg #[.string n, .int .i64 l, .int .i64 m], .agg #[.string n', .int .i64 l', .int .i64 m']] w fun e w' => e = .returned (.bool true) ∧ Below w.heap.size w w' := by
  have HA := fun w => Lib.hid (awake_any w)
  by_cases h1 : 2000 < n.size
  · have t1 : decide ((2000 : Int) < (n.size : Int)) = true := by simp; omega
    go_enter Try.func4, Try.ntmps4
    go_wp2_with fail
    refine (HA _).out.mono ?_
    rintro e w1 ⟨rfl, hb1⟩
    go_wp2_with fail
    go_ret
    exact ⟨rfl, (two_new hb1).2.2⟩
  · have t1 : decide ((2000 : Int) < (n.size : Int)) = false := by simp; omega
    have t2 : decide ((2000 : Int) < (n'.size : Int)) = true := by simp; omega
    clear h h1
    go_enter Try.func4, Try.ntmps4
    go_wp2_with fail
    refine (HA _).out.mono ?_
    rintro e w1 ⟨rfl, hb1⟩
    go_wp2_with fail
    go_ret
    exact ⟨rfl, (two_new hb1).2.2⟩
set_option maxRecDepth 100000 in
set_option maxHeartbeats 4000000 in
theorem subs_small (n : ByteArray) (l m : Int) (n' : ByteArray) (l' m' : Int) (w : World) (h1 : n.size ≤ 2000) (h2 : n'.size ≤ 2000) : Calls Try.prog 4 #[.agg #[.string n, .int .i64 l, .int .i64 m], .agg #[.string n', .int .i64 l', .int .i64 m']] w fun e w' => e = .returned (.bool true) ∧ Below w.heap.size w w' := by
  have HA := fun w => Lib.hid (awake_any w)
  have HS := fun w => Lib.hid (sub_any n l m n' l' m' w (by omega) (by omega))
  have HT := fun w => Lib.hid (rsub_any n l m n' l' m' w (by omega) (by omega))
  obtain ⟨v, hv⟩ : ∃ v, subB n l m n' l' m' = v := ⟨_, rfl⟩
  rw [hv] at HS HT
  have t1 : decide ((2000 : Int) < (n.size : Int)) = false := by simp; omega
  have t2 : decide ((2000 : Int) < (n'.size : Int)) = false := by simp; omega
  have HC := two_cells (⟨by
    intro p hp
    obtain ⟨x0, x1⟩ := new_two w (tyO n l m) (tyO n' l' m')
    simp only [List.mem_cons, List.not_mem_nil, or_false] at hp
    rcases hp with rfl | rfl
    · exact x0
    · exact x1, chain (below_new' w _) (below_new' _ _)⟩ : Keep w ((w.alloc (tyO n l m)).alloc (tyO n' l' m')) [(w.heap.size, tyO n l m), (w.heap.size + 1, tyO n' l' m')])
  clear hv h1 h2
  cases v
  all_goals
    go_enter Try.func4, Try.ntmps4
    go_wp2_with fail
    go_region_held3 (fun w' => w'.cell? ⟨w.heap.size, 0, none⟩ = some (.string n) ∧ w'.cell? ⟨w.heap.size, 1, none⟩ = some (.int .i64 l) ∧ w'.cell? ⟨w.heap.size, 2, none⟩ = some (.int .i64 m) ∧ w'.cell? ⟨w.heap.size + 1, 0, none⟩ = some (.string n') ∧ w'.cell? ⟨w.heap.size + 1, 1, none⟩ = some (.int .i64 l') ∧ w'.cell? ⟨w.heap.size + 1, 2, none⟩ = some (.int .i64 m') ∧ Keep w w' [(w.heap.size, tyO n l m), (w.heap.size + 1, tyO n' l' m')])
      (first
        | exact two_next (Below.drew (Below.refl _ _)) HC
        | exact two_next (by assumption) (by assumption)
        | exact two_next (by assumption) ⟨by assumption, by assumption, by assumption, by assumption, by assumption, by assumption, by assumption⟩
        | go_keep)
      ((first
        | (go_at_call 25; refine (HS _).out.mono ?_; rintro e w' ⟨rfl, hb⟩)
        | (go_at_call 26; refine (HT _).out.mono ?_; rintro e w' ⟨rfl, hb⟩)
        | (go_at_call 8; refine (HA _).out.mono ?_; rintro e w' ⟨rfl, hb⟩)))
    all_goals (go_wp2_with fail; go_ret; exact ⟨rfl, (by assumption : _ ∧ _ ∧ _ ∧ _ ∧ _ ∧ _ ∧ Keep w _ _).2.2.2.2.2.2.2⟩)
theorem LWSubs.walk (W : World) (n : ByteArray) (l m : Int) (_ : (Lit.int .i64 l).wf = true) (_ : (Lit.int .i64 m).wf = true) (n' : ByteArray) (l' m' : Int) (_ : (Lit.int .i64 l').wf = true) (_ : (Lit.int .i64 m').wf = true) : Calls Try.prog 4 #[.agg #[.string n, .int .i64 l, .int .i64 m], .agg #[.string n', .int .i64 l', .int .i64 m']] W fun e w' => e = .returned (.bool true) ∧ Below W.heap.size W w' := by
  by_cases h : 2000 < n.size ∨ 2000 < n'.size
  · exact subs_big n l m n' l' m' W h
  · exact subs_small n l m n' l' m' W (by omega) (by omega)
end Go.Proofs.Ytfinboplkjijhaa
