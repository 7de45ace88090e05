/- slices.Clone, at what graph.own clones. (gen_grown.py wrote it.) -/
import Derived.Test.YtohkimibphleaaaGrApp
import Derived.Lib.SliceRun
namespace Go.Proofs.Ytohkimibphleaaa
open Go.RowKit

theorem grun_append_empty {P : Program} {w : World} (t ty e : TypeId) (i : TypeInfo) (ht : P.underlying t = some (.slice e)) (hi : P.info? e = some i) (g cap c : Nat) (x : Option Addr) :
    (Builtin.append_ #[t, t] ty #[.slice (some ⟨g, 0, none⟩) 0 cap, .slice x 0 c]).run P w = .ok (.slice (some ⟨g, 0, none⟩) 0 cap) w := by
  cases x <;> simp [Builtin.append_, run_underlying ht, sizeOf, typeInfo, hi, Builtin.lenOf, Builtin.firstCells, storeCells, loadCells, loadCellsFrom]
theorem gown_lit0 (w : World) (ty : TypeId) (k : Nat) : (w.alloc (.cells #[] ty)).ownsRow w.heap.size ty k (.slice (some ⟨w.heap.size, 0, none⟩) 0 0) 0 [] :=
  World.ownsRow_lit w #[] 0 (Nat.le_refl _) (by decide) (by simp)
/-- What lies in a row. -/
def CellsA (w : World) (A : Option Addr) (xs : List Value) : Prop := (∀ (j : Nat) u, xs[j]? = some u → ∃ b o, A = some ⟨b, o, none⟩ ∧ w.cell? ⟨b, o + j, none⟩ = some u) ∧ ∀ u, u ∈ xs → u.oneCell' = true
theorem gci_dir : ∃ i z, Try.prog.info? 79 = some i ∧ i.zero = some z ∧ i.size = 2 ∧ i.bytes = 40 ∧ z.cells.size = 2 := ginfo_of (by kernel_rfl)
set_option maxRecDepth 100000 in
set_option maxHeartbeats 4000000 in
theorem gclone_dir (A : Option Addr) (n c : Nat) (xs : List Value) (w : World) (hx : CellsA w A xs) (hl : xs.length = n * 2) (hz : n ≤ 1099511627776) :
    Calls Try.prog 35 #[.slice A n c] w fun e w' => ∃ V, e = .returned V ∧ w'.ownsRow w.heap.size 79 2 V n xs ∧ Below w.heap.size w w' := by
  obtain ⟨i0, z, hi, hz0, hz1, hz2, hz3⟩ := gci_dir
  have hnil := Lib.run_eql_slice_nil (P := Try.prog)
  rcases Nat.eq_zero_or_pos n with h0 | h0
  · subst h0
    have hxs : xs = [] := List.eq_nil_of_length_eq_zero (by omega)
    subst hxs
    clear hx hl hz
    cases A with
    | none =>
      have hq := fun W => hnil W 28 79 none 0 c 0 0 Try.underlying28
      clear hnil
      go_enter Try.func35, Try.ntmps35
      go_wp2_with fail
      go_ret
      exact ⟨_, rfl, World.ownsRow_nil _ _ _ _, Below.refl _ _⟩
    | some a =>
      have hq := fun W => hnil W 28 79 (some a) 0 c 0 0 Try.underlying28
      have hap := fun W ty g => @grun_append_empty Try.prog W 28 ty 79 i0 Try.underlying28 hi g 0 c (some a)
      clear hnil
      go_enter Try.func35, Try.ntmps35
      go_wp2_with fail
      go_ret
      exact ⟨_, rfl, gown_lit0 _ _ _, gnew _ _⟩
  · obtain ⟨u0, hu0⟩ : ∃ u, xs[0]? = some u := ⟨_, List.getElem?_eq_getElem (by omega)⟩
    obtain ⟨b, o, rfl, hc0⟩ := hx.1 0 u0 hu0
    have hbw := World.block_lt_of_cell? w _ hc0
    have HC : Hid (∀ (j : Nat) u, xs[j]? = some u → w.cell? ⟨b, o + j, none⟩ = some u) := Lib.hid (fun j u hj => by
      obtain ⟨b', o', e, hc⟩ := hx.1 j u hj
      injection e with e
      injection e with e1 e2
      subst e1 e2
      exact hc)
    have HO := Lib.hid hx.2
    have HN := Lib.hid hl
    have hq := fun W => hnil W 28 79 (some ⟨b, o, none⟩) n c 0 0 Try.underlying28
    have O0 := Lib.hid (gown_lit0 w 79 2)
    have B0 := Lib.hid (gnew w (.cells #[] 79))
    clear hnil hx hl hu0 hc0
    go_enter Try.func35, Try.ntmps35
    go_wp2_with (at_builtin; go_loud (refine wpList_append_lies _ rfl _ _ 28 rfl w.heap.size 79 i0 z 2 40 Try.underlying28 hi hz0 hz1 hz2 hz3 (by decide) _ 0 [] rfl O0.out _ n c xs rfl HN.out (fun j u hj => by rw [add_at]; exact (B0.out.cell (p := ⟨b, o + j, none⟩) hbw).trans (HC.out j u hj)) HO.out h0 (by unfold maxLen; omega) (by omega) (by simp) _ rfl ?_; intro gg cap2 w4 hown4 hgrow4 hat4 hlt4; have HG4 := Lib.hid hgrow4; have HO4 := Lib.hid hown4; clear hgrow4 hown4 hat4))
    go_ret
    have B4 := gbelow_grown (B := w.heap.size) B0.out HG4.out B0.out.size (fun k hk => by have e : some w.heap.size = some k := hk; injection e with e; omega)
    exact ⟨_, rfl, by have h := HO4.out; rw [Nat.zero_add] at h; exact h, B4⟩
theorem gci_mem : ∃ i z, Try.prog.info? 81 = some i ∧ i.zero = some z ∧ i.size = 6 ∧ i.bytes = 96 ∧ z.cells.size = 6 := ginfo_of (by kernel_rfl)
set_option maxRecDepth 100000 in
set_option maxHeartbeats 4000000 in
theorem gclone_mem (A : Option Addr) (n c : Nat) (xs : List Value) (w : World) (hx : CellsA w A xs) (hl : xs.length = n * 6) (hz : n ≤ 1099511627776) :
    Calls Try.prog 36 #[.slice A n c] w fun e w' => ∃ V, e = .returned V ∧ w'.ownsRow w.heap.size 81 6 V n xs ∧ Below w.heap.size w w' := by
  obtain ⟨i0, z, hi, hz0, hz1, hz2, hz3⟩ := gci_mem
  have hnil := Lib.run_eql_slice_nil (P := Try.prog)
  rcases Nat.eq_zero_or_pos n with h0 | h0
  · subst h0
    have hxs : xs = [] := List.eq_nil_of_length_eq_zero (by omega)
    subst hxs
    clear hx hl hz
    cases A with
    | none =>
      have hq := fun W => hnil W 49 81 none 0 c 0 0 Try.underlying49
      clear hnil
      go_enter Try.func36, Try.ntmps36
      go_wp2_with fail
      go_ret
      exact ⟨_, rfl, World.ownsRow_nil _ _ _ _, Below.refl _ _⟩
    | some a =>
      have hq := fun W => hnil W 49 81 (some a) 0 c 0 0 Try.underlying49
      have hap := fun W ty g => @grun_append_empty Try.prog W 49 ty 81 i0 Try.underlying49 hi g 0 c (some a)
      clear hnil
      go_enter Try.func36, Try.ntmps36
      go_wp2_with fail
      go_ret
      exact ⟨_, rfl, gown_lit0 _ _ _, gnew _ _⟩
  · obtain ⟨u0, hu0⟩ : ∃ u, xs[0]? = some u := ⟨_, List.getElem?_eq_getElem (by omega)⟩
    obtain ⟨b, o, rfl, hc0⟩ := hx.1 0 u0 hu0
    have hbw := World.block_lt_of_cell? w _ hc0
    have HC : Hid (∀ (j : Nat) u, xs[j]? = some u → w.cell? ⟨b, o + j, none⟩ = some u) := Lib.hid (fun j u hj => by
      obtain ⟨b', o', e, hc⟩ := hx.1 j u hj
      injection e with e
      injection e with e1 e2
      subst e1 e2
      exact hc)
    have HO := Lib.hid hx.2
    have HN := Lib.hid hl
    have hq := fun W => hnil W 49 81 (some ⟨b, o, none⟩) n c 0 0 Try.underlying49
    have O0 := Lib.hid (gown_lit0 w 81 6)
    have B0 := Lib.hid (gnew w (.cells #[] 81))
    clear hnil hx hl hu0 hc0
    go_enter Try.func36, Try.ntmps36
    go_wp2_with (at_builtin; go_loud (refine wpList_append_lies _ rfl _ _ 49 rfl w.heap.size 81 i0 z 6 96 Try.underlying49 hi hz0 hz1 hz2 hz3 (by decide) _ 0 [] rfl O0.out _ n c xs rfl HN.out (fun j u hj => by rw [add_at]; exact (B0.out.cell (p := ⟨b, o + j, none⟩) hbw).trans (HC.out j u hj)) HO.out h0 (by unfold maxLen; omega) (by omega) (by simp) _ rfl ?_; intro gg cap2 w4 hown4 hgrow4 hat4 hlt4; have HG4 := Lib.hid hgrow4; have HO4 := Lib.hid hown4; clear hgrow4 hown4 hat4))
    go_ret
    have B4 := gbelow_grown (B := w.heap.size) B0.out HG4.out B0.out.size (fun k hk => by have e : some w.heap.size = some k := hk; injection e with e; omega)
    exact ⟨_, rfl, by have h := HO4.out; rw [Nat.zero_add] at h; exact h, B4⟩
theorem gci_sel : ∃ i z, Try.prog.info? 55 = some i ∧ i.zero = some z ∧ i.size = 7 ∧ i.bytes = 128 ∧ z.cells.size = 7 := ginfo_of (by kernel_rfl)
set_option maxRecDepth 100000 in
set_option maxHeartbeats 4000000 in
theorem gclone_sel (A : Option Addr) (n c : Nat) (xs : List Value) (w : World) (hx : CellsA w A xs) (hl : xs.length = n * 7) (hz : n ≤ 1099511627776) :
    Calls Try.prog 37 #[.slice A n c] w fun e w' => ∃ V, e = .returned V ∧ w'.ownsRow w.heap.size 55 7 V n xs ∧ Below w.heap.size w w' := by
  obtain ⟨i0, z, hi, hz0, hz1, hz2, hz3⟩ := gci_sel
  have hnil := Lib.run_eql_slice_nil (P := Try.prog)
  rcases Nat.eq_zero_or_pos n with h0 | h0
  · subst h0
    have hxs : xs = [] := List.eq_nil_of_length_eq_zero (by omega)
    subst hxs
    clear hx hl hz
    cases A with
    | none =>
      have hq := fun W => hnil W 26 55 none 0 c 0 0 Try.underlying26
      clear hnil
      go_enter Try.func37, Try.ntmps37
      go_wp2_with fail
      go_ret
      exact ⟨_, rfl, World.ownsRow_nil _ _ _ _, Below.refl _ _⟩
    | some a =>
      have hq := fun W => hnil W 26 55 (some a) 0 c 0 0 Try.underlying26
      have hap := fun W ty g => @grun_append_empty Try.prog W 26 ty 55 i0 Try.underlying26 hi g 0 c (some a)
      clear hnil
      go_enter Try.func37, Try.ntmps37
      go_wp2_with fail
      go_ret
      exact ⟨_, rfl, gown_lit0 _ _ _, gnew _ _⟩
  · obtain ⟨u0, hu0⟩ : ∃ u, xs[0]? = some u := ⟨_, List.getElem?_eq_getElem (by omega)⟩
    obtain ⟨b, o, rfl, hc0⟩ := hx.1 0 u0 hu0
    have hbw := World.block_lt_of_cell? w _ hc0
    have HC : Hid (∀ (j : Nat) u, xs[j]? = some u → w.cell? ⟨b, o + j, none⟩ = some u) := Lib.hid (fun j u hj => by
      obtain ⟨b', o', e, hc⟩ := hx.1 j u hj
      injection e with e
      injection e with e1 e2
      subst e1 e2
      exact hc)
    have HO := Lib.hid hx.2
    have HN := Lib.hid hl
    have hq := fun W => hnil W 26 55 (some ⟨b, o, none⟩) n c 0 0 Try.underlying26
    have O0 := Lib.hid (gown_lit0 w 55 7)
    have B0 := Lib.hid (gnew w (.cells #[] 55))
    clear hnil hx hl hu0 hc0
    go_enter Try.func37, Try.ntmps37
    go_wp2_with (at_builtin; go_loud (refine wpList_append_lies _ rfl _ _ 26 rfl w.heap.size 55 i0 z 7 128 Try.underlying26 hi hz0 hz1 hz2 hz3 (by decide) _ 0 [] rfl O0.out _ n c xs rfl HN.out (fun j u hj => by rw [add_at]; exact (B0.out.cell (p := ⟨b, o + j, none⟩) hbw).trans (HC.out j u hj)) HO.out h0 (by unfold maxLen; omega) (by omega) (by simp) _ rfl ?_; intro gg cap2 w4 hown4 hgrow4 hat4 hlt4; have HG4 := Lib.hid hgrow4; have HO4 := Lib.hid hown4; clear hgrow4 hown4 hat4))
    go_ret
    have B4 := gbelow_grown (B := w.heap.size) B0.out HG4.out B0.out.size (fun k hk => by have e : some w.heap.size = some k := hk; injection e with e; omega)
    exact ⟨_, rfl, by have h := HO4.out; rw [Nat.zero_add] at h; exact h, B4⟩
end Go.Proofs.Ytohkimibphleaaa
