/- seinekeep.Params: a row of parameters, copied by an append to nil. -/
import Derived.Test.YtmamgaifpjgfkaaDfClone
namespace Go.Proofs.Ytmamgaifpjgfkaa
open Go.RowKit

theorem run_append_none {P : Program} {w : World} (t ty e : TypeId) (i : TypeInfo) (ht : P.underlying t = some (.slice e)) (hi : P.info? e = some i) (c : Nat) (x : Option Addr) :
    (Builtin.append_ #[t, t] ty #[.slice none 0 0, .slice x 0 c]).run P w = .ok (.slice none 0 0) w := by
  cases x <;> simp [Builtin.append_, run_underlying ht, sizeOf, typeInfo, hi, Builtin.lenOf, Builtin.firstCells, loadCells, loadCellsFrom]
set_option maxRecDepth 100000 in
set_option maxHeartbeats 4000000 in
theorem kparams_any (l : List VarT) (A : Option Addr) (c : Nat) (w : World) (P : Nat → Prop) (hP : ∀ b, P b → b < w.heap.size) (hz : l.length * 136 ≤ 140737488355328) (hR : RowT w P (rowOf encVar l) A) :
    Calls Try.prog 25 #[.slice A l.length c] w (Cloned 67 10 (rowOf encVar l) l.length P w) := by
  obtain ⟨i0, z, hi, hz0, hz1, hz2, hz3⟩ := cinfo_par
  cases l with
  | nil =>
    clear hR hz
    cases A with
    | none =>
      have hap := fun W ty => @run_append_none Try.prog W 30 ty 67 i0 Try.underlying30 hi c none
      go_enter Try.func25, Try.ntmps25
      go_wp2_with fail
      go_ret
      exact ⟨_, [], rfl, World.ownsRow_nil _ _ _ _, rfl, Below.refl _ _⟩
    | some a =>
      have hap := fun W ty => @run_append_none Try.prog W 30 ty 67 i0 Try.underlying30 hi c (some a)
      go_enter Try.func25, Try.ntmps25
      go_wp2_with fail
      go_ret
      exact ⟨_, [], rfl, World.ownsRow_nil _ _ _ _, rfl, Below.refl _ _⟩
  | cons a t =>
    obtain ⟨b, o, rfl⟩ : ∃ b o, A = some ⟨b, o, none⟩ := row_some hR
    obtain ⟨xs, hx, hc⟩ := row_news hR
    obtain ⟨L, hL⟩ : ∃ L, L = (a :: t).length := ⟨_, rfl⟩
    have hlen : xs.length = L * 10 := by rw [hL]; exact tlv_len len_par hx
    have hone : ∀ u, u ∈ xs → u.oneCell' = true := tlv_one one_par hx
    rw [← hL] at hz ⊢
    have hLp : 0 < L := by rw [hL]; simp
    have HX := Lib.hid hx
    have HC := Lib.hid hc
    have hblt : P b := row_lt (by rw [rowOf] at hR; exact hR)
    have HO := Lib.hid hone
    have HN := Lib.hid hlen
    have O0 := Lib.hid (World.ownsRow_nil w w.heap.size 67 10)
    clear hR hx hc hL hone hlen
    go_enter Try.func25, Try.ntmps25
    go_wp2_with (at_builtin; go_loud (refine wpList_append_lies _ rfl _ _ 30 rfl w.heap.size 67 i0 z 10 136 Try.underlying30 hi hz0 hz1 hz2 hz3 (by decide) _ 0 [] rfl O0.out _ L c xs rfl HN.out (fun j u hj => by rw [add_at]; exact HC.out j u hj) HO.out hLp (by unfold maxLen; omega) (by omega) (by simp) _ rfl ?_; intro gg cap2 w4 hown4 hgrow hat hlt4; have HG4 := Lib.hid hgrow; have HO4 := Lib.hid hown4; have HT4 := Lib.hid hat; clear hgrow hown4 hat))
    go_ret
    have B4 := below_grown (B := w.heap.size) (Below.refl _ _) HG4.out (Nat.le_refl _) (fun k hk => by have e : none = some k := hk; cases e)
    exact ⟨_, xs, rfl, by have h := HO4.out; rw [Nat.zero_add] at h; exact h, TLV.keep (fun k hk => ⟨hk, B4.block k (hP k hk)⟩) HX.out, B4⟩
end Go.Proofs.Ytmamgaifpjgfkaa
