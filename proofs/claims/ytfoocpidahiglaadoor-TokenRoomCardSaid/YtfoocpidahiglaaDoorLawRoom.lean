/- The walk of the law TokenRoom. -/
import Derived.Test.YtfoocpidahiglaaDoorLawNumbers
import Derived.OwnWalk
import Derived.Laws.BytesArg
namespace Go.Proofs.YtfoocpidahiglaaDoor
open Go.RowKit

theorem commas_read : ∀ n : Nat, readL (List.replicate n 44) = some [] := by
  intro n
  induction n with
  | zero => rfl
  | succ n ih =>
    rw [List.replicate_succ, readL_gap (by simp [gapL, isGap])]
    exact ih
theorem commas_source (n : Nat) : sourceB (List.replicate n 44) = true := source_ascii (by
  rw [List.all_eq_true]
  intro x hx
  obtain rfl := List.eq_of_mem_replicate hx
  decide)
theorem commas_readS (m : Nat) (hm : m ≤ 8192) : readS (List.replicate m 44) = ([], 0) := readS_some (by simpa using hm) (commas_source m) (commas_read m)
theorem commas_big (m : Nat) (hm : 8192 < m) : readS (List.replicate m 44) = ([], 3) := by
  unfold readS
  rw [if_pos (by simpa using hm)]
def commaX (m : Nat) : ByteArray := strOfNums (List.replicate m 44)
theorem commaX_data (m : Nat) : (commaX m).data.toList = List.replicate m 44 := by
  unfold commaX
  rw [strOfNums_data, List.map_replicate]
  rfl
theorem commaX_size (m : Nat) : (commaX m).size = m := by
  unfold commaX
  rw [strOfNums_size, List.length_replicate]
def commaC (m i : Nat) : List Value := List.replicate i (.int .u8 44) ++ List.replicate (m - i) (.int .u8 0)
theorem commaC_set {m i : Nat} (h : i < m) : (commaC m i).set i (.int .u8 44) = commaC m (i + 1) := by
  unfold commaC
  rw [List.set_append_right _ _ (by simp)]
  simp only [List.length_replicate, Nat.sub_self]
  rw [show m - i = (m - (i + 1)) + 1 by omega, List.replicate_succ, List.set_cons_zero, List.replicate_succ']
  simp
theorem commaC_zero (m : Nat) : (madeCells (Value.int .u8 0).cells (m * 1)).toList = commaC m 0 := by
  unfold commaC madeCells
  apply List.ext_getElem
  · simp
  · intro j h1 h2
    simp [Value.cells, Nat.mod_one]
theorem info_b : (Tryd.prog.info? 5).map (fun i => (i.zero, i.size, i.bytes)) = some (some (.int .u8 0), 1, 1) := by kernel_rfl
theorem len_below {w w' : World} {o : Option Nat} (h : w.grownBy w' o) (ho : o = none) : Below w.heap.size w w' := by
  subst ho
  exact ⟨h.os, h.tape, h.output, h.size, fun k hk => h.block k hk (by simp)⟩
namespace LRoom

set_option maxRecDepth 100000 in
set_option maxHeartbeats 2000000 in
theorem walk (n : Int) (_hw : (Lit.int .i64 n).wf = true) (w : World) (h3 : Laid3 w) : Calls Tryd.prog 4 #[.int .i64 n] w fun e w' => e = .returned (.bool true) ∧ Below w.heap.size w w' := by
  obtain ⟨i0, hi, hz0, hz1, hz2⟩ := info_parts info_b
  have K0 := K3.start h3

  by_cases hout : n < 0 ∨ 4 < n
  · have HA := Lib.hid (awake_t K0)
    clear K0 h3
    rcases hout with h | h
    · go_enter Tryd.func4, Tryd.ntmps4
      go_wp2_with fail
      refine HA.out.mono ?_
      rintro e w1 ⟨rfl, K⟩
      have HK := Lib.hid K
      clear K
      go_wp2_with fail
      go_ret
      exact ⟨rfl, HK.out.2⟩
    · have h' : ¬ n < 0 := by omega
      go_enter Tryd.func4, Tryd.ntmps4
      go_wp2_with fail
      refine HA.out.mono ?_
      rintro e w1 ⟨rfl, K⟩
      have HK := Lib.hid K
      clear K
      go_wp2_with fail
      go_ret
      exact ⟨rfl, HK.out.2⟩
  have hn0 : ¬ n < 0 := by omega
  have hn4 : ¬ 4 < n := by omega
  obtain ⟨m, hm⟩ : ∃ m : Nat, (8190 : Int) + n = m := ⟨(8190 + n).toNat, by omega⟩
  have hm0 : m ≤ 8194 := by omega
  have hm1 : 0 < m := by omega
  clear hout
  go_enter Tryd.func4, Tryd.ntmps4
  go_wp2_with (at_make; refine wpList_make_full _ rfl _ _ 31 rfl w.heap.size 5 i0 (.int .u8 0) 1 Tryd.underlying31 hi hz0 hz1 .i64 .i64 _ _ m rfl rfl (by first | rfl | omega) (by first | rfl | omega) (by rw [hz2]; omega) (by unfold maxLen; omega) (Nat.le_refl _) ?_; intro w1 hown hgrow; have HO := Lib.hid hown; have HG := Lib.hid hgrow; clear hown hgrow)
  go_loopg [4] m (fun g iv wx => ∃ i : Nat, i + g = m ∧ iv = .int .i64 i ∧ wx.ownsRow w.heap.size 5 1 (.slice (some ⟨w.heap.size, 0, none⟩) m m) m (commaC m i) ∧ Below w.heap.size w wx)
  case atStart => exact ⟨0, by omega, rfl, by rw [← commaC_zero]; exact HO.out, len_below HG.out rfl⟩
  case round =>
    obtain ⟨i, hig, rfl, hown, hb⟩ := hrel
    by_cases hlt : i < m
    · have hlt' : (i : Int) < (m : Int) := by omega
      have hi0 : (0 : Int) ≤ (i : Int) := by omega
      obtain ⟨v, hv⟩ : ∃ v, (commaC m i)[i]? = some v := ⟨_, List.getElem?_eq_getElem (by unfold commaC; simp; omega)⟩
      have c1 : wr.cell? ⟨w.heap.size, i, none⟩ = some v := by rw [World.ownsRow.cellAt hown i (by omega), hv]
      have f1 : wr.frozen? ⟨w.heap.size, i, none⟩ = false := World.ownsRow.frozenAt hown i
      have HS := Lib.hid (World.ownsRow.stored hown i (.int .u8 44))
      have HB := Lib.hid hb
      clear hown hb hv
      go_wp2_with fail
      go_roundg (gk - 1)
      case measure => omega
      case rel => exact ⟨i + 1, by omega, by go_num, by have := HS.out.1; rwa [commaC_set hlt] at this, HB.out.setCell (Nat.le_refl _) _⟩
    · obtain rfl : i = m := by omega
      have hlt' : ¬ (i : Int) < (i : Int) := by omega
      have K1 : K3 w wr := K0.next hb
      have hcv := run_convert_bytes_arg (P := Tryd.prog) wr 31 5 Tryd.underlying31 Tryd.underlying5 w.heap.size 0 i i (List.replicate i 44) (by simp) (fun j hj => by
        rw [Nat.zero_add, World.ownsRow.cellAt hown j (by omega)]
        unfold commaC
        rw [List.getElem?_append_left (by simpa using hj), List.getElem?_replicate, if_pos hj]
        simp [List.getD, hj]) 9 Tryd.underlying9
      change (convert _ _ _).run _ _ = .ok (.string (commaX i)) _ at hcv
      have hXd := commaX_data i
      have hXs := commaX_size i
      generalize commaX i = X at *
      by_cases h2 : 2 < n
      · have H1 := Lib.hid (read_k K1 X (by omega) [] 3 (by rw [hXd]; exact commas_big i (by omega)))
        clear K1 hown hb hXd HO HG
        go_wp2_with fail
        refine H1.out.mono ?_
        rintro e w2 ⟨A, cap, rfl, _, K2, _⟩
        have H4 := Lib.hid (awake_t K2)
        clear K2
        go_wp2_with fail
        refine H4.out.mono ?_
        rintro e w3 ⟨rfl, K⟩
        have HK := Lib.hid K
        clear K
        go_wp2_with fail
        go_ret
        exact ⟨rfl, HK.out.2⟩
      · have H1 := Lib.hid (read_k K1 X (by omega) [] 0 (by rw [hXd]; exact commas_readS i (by omega)))
        clear K1 hown hb hXd HO HG
        go_wp2_with fail
        refine H1.out.mono ?_
        rintro e w2 ⟨A, cap, rfl, _, K2, _⟩
        have H4 := Lib.hid (awake_t K2)
        clear K2
        go_wp2_with fail
        refine H4.out.mono ?_
        rintro e w3 ⟨rfl, K⟩
        have HK := Lib.hid K
        clear K
        go_wp2_with fail
        go_ret
        exact ⟨rfl, HK.out.2⟩
end LRoom
end Go.Proofs.YtfoocpidahiglaaDoor
