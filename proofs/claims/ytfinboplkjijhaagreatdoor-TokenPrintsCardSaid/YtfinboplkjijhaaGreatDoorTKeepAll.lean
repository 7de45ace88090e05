/- A slice of ints that comes in, opened: its length, and its numbers in memory that was there. -/
import Derived.Test.YtfinboplkjijhaaGreatDoorTFrame
import Derived.Test.YtfinboplkjijhaaGreatDoorJoin
import Derived.Test.YtfinboplkjijhaaGreatDoorTShort
import Derived.Laws.MakeOwn
namespace Go.Proofs.YtfinboplkjijhaaGreatDoor
open Go.ChangeShapes Go.WideShapes Go.ChangeAt Go.RowKit

set_option maxRecDepth 100000 in
theorem open_slice {H : Type} {enc : TypeId × Value → H} {W : World} {base : Nat} {v : Value} {d : DataW H} {ps : List MemPlace} (hval : Value.okWide Tryz.prog W .any base 66 v) (hd : DataW.Trod enc Tryz.prog W 0 (fun _ => true) true 66 v d ps) :
    ∃ (A : Option Addr) (n c : Nat) (zs : List Int), v = .slice A n c ∧ IntsAt W W.heap.size A n zs ∧ (∀ z ∈ zs, (Lit.int .i64 z).wf = true) ∧ (A = none → n = 0 ∧ c = 0) := by
  obtain ⟨A, n, c, rfl⟩ := okWide_slice Tryz.underlying66 hval
  obtain ⟨fuel, hf⟩ := hd
  rcases open_ints Tryz.underlying66 Tryz.underlying3 cellsInt hf with ⟨hcs, _⟩ | ⟨a, len, cap, zs, hcs, _, hl, hm, hz, _, hcell, hw⟩
  · simp [Value.cells] at hcs
    obtain ⟨rfl, rfl, rfl⟩ := hcs
    exact ⟨none, 0, 0, [], rfl, ⟨rfl, fun j z hz => by simp at hz⟩, fun z hz => (by simp at hz), fun _ => ⟨rfl, rfl⟩⟩
  · simp [Value.cells] at hcs
    obtain ⟨rfl, rfl, rfl⟩ := hcs
    simp only [if_true] at hz
    refine ⟨some a, n, c, zs.take n, rfl, ⟨by rw [List.length_take]; omega, fun j z hjz => ?_⟩, fun z hz' => hw z (List.mem_of_mem_take hz'), fun h => by cases h⟩
    rw [List.getElem?_take] at hjz
    split at hjz
    · rename_i hj
      have hjl := (List.getElem?_eq_some_iff.1 hjz).1
      have hc := hcell j hjl
      have hz' : zs.getD j 0 = z := by rw [List.getD_eq_getElem?_getD, hjz]; rfl
      rw [hz'] at hc
      obtain ⟨b, off, spot⟩ := a
      have hspot : spot = none := by
        have h0 := hcell 0 (by omega)
        simpa [Addr.add] using World.cell?_spot h0
      subst hspot
      refine ⟨b, off, rfl, ?_, by rw [← add_plain]; exact hc⟩
      rw [add_plain] at hc
      rcases Nat.lt_or_ge b W.heap.size with h' | h'
      · exact h'
      · simp [World.cell?, Array.getElem?_eq_none h'] at hc
    · cases hjz
end Go.Proofs.YtfinboplkjijhaaGreatDoor
/- A slice of tokens that comes in, opened: its length, and its tokens in memory that was there. -/
namespace Go.Proofs.YtfinboplkjijhaaGreatDoor
open Go.ChangeShapes Go.WideShapes Go.ChangeAt Go.RowKit

theorem cellsTok : Tryz.prog.cellsOf 37 = 2 := by kernel_rfl
theorem cellsStrT : Tryz.prog.cellsOf 9 = 1 := by kernel_rfl
theorem weights_all {H : Type} {P : Program} {e : TypeId} {d : DataW H} {m : Nat} : ∀ {l : List (DataW H)}, d ∈ l → m ∈ d.weights P e → m ∈ DataW.weightsAll P e l := by
  intro l
  induction l with
  | nil => intro h; cases h
  | cons x l ih =>
    intro h hm
    rw [DataW.weightsAll]
    rcases List.mem_cons.1 h with rfl | h
    · exact List.mem_append.2 (.inl hm)
    · exact List.mem_append.2 (.inr (ih h hm))
set_option maxRecDepth 100000 in
theorem open_toks {H : Type} {enc : TypeId × Value → H} {W : World} {base : Nat} {v : Value} {d : DataW H} {ps : List MemPlace} (hval : Value.okWide Tryz.prog W .any base 23 v) (hd : DataW.Trod enc Tryz.prog W 0 (fun _ => true) true 23 v d ps)
    (hz : ∀ m ∈ d.weights Tryz.prog 23, m ≤ reachBytes) :
    ∃ (A : Option Addr) (n c : Nat) (ts : List (Int × ByteArray)), v = .slice A n c ∧ TsAt W W.heap.size A n ts ∧ (∀ t ∈ ts, t.2.size ≤ 140737488355328) ∧ (∀ t ∈ ts, (Lit.int .i64 t.1).wf = true) ∧ (A = none → n = 0 ∧ c = 0) := by
  obtain ⟨A, n, c, rfl⟩ := okWide_slice Tryz.underlying23 hval
  obtain ⟨fuel, hf⟩ := hd
  rcases Go.Deep.open_slice_pairs Tryz.underlying23 Tryz.underlying37 cellsTok rfl rfl cellsInt cellsStrT hf with ⟨hcs, _⟩ | ⟨a, len, cap, m, f, V0, V1, D0, D1, P0, P1, hcs, _, hl, _, hm, hx, hi⟩
  · simp [Value.cells] at hcs
    obtain ⟨rfl, rfl, rfl⟩ := hcs
    exact ⟨none, 0, 0, [], rfl, ⟨rfl, fun j t ht => by simp at ht⟩, fun t ht => (by simp at ht), fun t ht => (by simp at ht), fun _ => ⟨rfl, rfl⟩⟩
  · simp [Value.cells] at hcs
    obtain ⟨rfl, rfl, rfl⟩ := hcs
    simp only [if_true] at hm
    have each : ∀ i, i < n → ∃ q : Int × ByteArray, V0 i = .int .i64 q.1 ∧ V1 i = .string q.2 ∧ D1 i = .lit (.string q.2.data.toList) ∧ (Lit.int .i64 q.1).wf = true := by
      intro i hin
      obtain ⟨_, _, t0, t1⟩ := hi i (by omega)
      obtain ⟨z, e0, x0, w0⟩ := DataW.trod_int Tryz.underlying3 t0
      obtain ⟨s, e1, x1, w1⟩ := DataW.trod_string Tryz.underlying9 t1
      refine ⟨(z, s), by simpa using e0, by simpa using e1, ?_, ?_⟩
      · have := congrArg Prod.fst x1; exact this
      · exact w0
    obtain ⟨q, hq⟩ := Go.Deep.choose_lt each
    refine ⟨some a, n, c, (List.range n).map q, rfl, ⟨by simp, fun j t ht => ?_⟩, fun t ht => ?_, fun t ht => ?_, fun h => by cases h⟩
    · rw [List.getElem?_map] at ht
      obtain ⟨i, hir, rfl⟩ := Option.map_eq_some_iff.1 ht
      have hij : i = j ∧ j < n := by
        obtain ⟨hlt, e⟩ := List.getElem?_eq_some_iff.1 hir
        simp at hlt e
        exact ⟨e.symm, hlt⟩
      obtain ⟨rfl, hlt⟩ := hij
      obtain ⟨g0, g1, _, _⟩ := hi i (by omega)
      obtain ⟨y0, y1, _, _⟩ := hq i hlt
      rw [y0] at g0
      rw [y1] at g1
      obtain ⟨b, off, spot⟩ := a
      have hspot : spot = none := by
        obtain ⟨h0, _, _, _⟩ := hi 0 (by omega)
        simpa [Addr.add] using World.cell?_spot h0
      subst hspot
      rw [add_plain] at g0 g1
      refine ⟨b, off, rfl, lt_of_cell g0, g0, by rw [Nat.add_assoc]; exact g1⟩
    · obtain ⟨i, hir, rfl⟩ := List.mem_map.1 ht
      have hin : i < n := by simpa using hir
      obtain ⟨_, _, y2, _⟩ := hq i hin
      simp only [Prod.mk.injEq] at hx
      have h1 := hz (q i).2.size (by
        rw [hx.1]
        simp only [DataW.weights, Tryz.underlying23]
        refine List.mem_cons.2 (.inr (List.mem_append.2 (.inl (weights_all (List.mem_map.2 ⟨i, hir, rfl⟩) ?_))))
        simp only [DataW.weights, Tryz.underlying37, List.map_cons, List.map_nil, DataW.weightsEach, y2]
        simp)
      have : reachBytes ≤ 140737488355328 := by decide
      omega
    · obtain ⟨i, hir, rfl⟩ := List.mem_map.1 ht
      exact (hq i (by simpa using hir)).2.2.2
end Go.Proofs.YtfinboplkjijhaaGreatDoor
/- The walks of seinekeep.Tokens and TokensStay: a copy of tokens with a mark behind it. -/
namespace Go.Proofs.YtfinboplkjijhaaGreatDoor
open Go.RowKit

theorem tokVals_get : ∀ (l : List (Int × List UInt8)) (j : Nat) (u : Value), (tokVals l)[j]? = some u → ∃ i t, l[i]? = some t ∧ ((j = i * 2 ∧ u = .int .i64 t.1) ∨ (j = i * 2 + 1 ∧ u = .string ⟨t.2.toArray⟩)) := by
  intro l
  induction l with
  | nil => intro j u h; simp [tokVals] at h
  | cons t l ih =>
    intro j u h
    have e : tokVals (t :: l) = .int .i64 t.1 :: .string ⟨t.2.toArray⟩ :: tokVals l := rfl
    rw [e] at h
    match j, h with
    | 0, h => exact ⟨0, t, rfl, .inl ⟨rfl, by simpa using h.symm⟩⟩
    | 1, h => exact ⟨0, t, rfl, .inr ⟨rfl, by simpa using h.symm⟩⟩
    | j + 2, h =>
      obtain ⟨i, s, hi, hc⟩ := ih j u (by simpa using h)
      refine ⟨i + 1, s, by simpa using hi, ?_⟩
      rcases hc with ⟨h1, h2⟩ | ⟨h1, h2⟩
      · exact .inl ⟨by omega, h2⟩
      · exact .inr ⟨by omega, h2⟩
theorem tokVals_app (a b : List (Int × List UInt8)) : tokVals (a ++ b) = tokVals a ++ tokVals b := by simp [tokVals]
/-- What Tokens hands back: a slice of the call's own that reads as ts, with the mark behind its length. -/
def CopiedT (w w' : World) (n : Nat) (ts : List (Int × ByteArray)) (e : Ending) : Prop :=
  ∃ g cap, e = .returned (.slice (some ⟨g, 0, none⟩) n cap) ∧ n + 1 ≤ cap ∧ TsAt w' w'.heap.size (some ⟨g, 0, none⟩) (n + 1) (ts ++ [(77, ⟨#[]⟩)]) ∧ Below w.heap.size w w'
theorem keep_own_more {w : World} {base n : Nat} {A : Option Addr} {cap : Nat} {ts : List (Int × ByteArray)} (hn : ts.length = n) (h : w.ownsRow base 37 2 (.slice A (n + 1) cap) (n + 1) (tokVals (bareT ts) ++ [.int .i64 77, .string ⟨#[]⟩])) : ∃ g, A = some ⟨g, 0, none⟩ ∧ (n : Int) + 1 ≤ (cap : Int) ∧ Hid (TsAt w w.heap.size A (n + 1) (ts ++ [(77, ⟨#[]⟩)])) := by
  have e : tokVals (bareT ts) ++ [.int .i64 77, .string ⟨#[]⟩] = tokVals (bareT (ts ++ [(77, ⟨#[]⟩)])) := by
    rw [show bareT (ts ++ [(77, ⟨#[]⟩)]) = bareT ts ++ [(77, [])] by simp [bareT], tokVals_app]; rfl
  have hl : (bareT (ts ++ [(77, (⟨#[]⟩ : ByteArray))])).length = n + 1 := by simp [bareT, hn]
  rw [e] at h
  have h0 := h
  rw [← hl] at h
  have ht := (toks_own h).ts
  rw [pack_bare, hl] at ht
  rcases h0.2 with ⟨_, h0⟩ | ⟨g, c, cur, hv, _, _, hnc, _⟩
  · omega
  · injection hv with h1 h2 h3
    exact ⟨g, h1, by omega, Lib.hid ht⟩
theorem keep_ret {w w' : World} {n g cap : Nat} {ts : List (Int × ByteArray)} (hc : (n : Int) + 1 ≤ (cap : Int)) (hI : TsAt w' w'.heap.size (some ⟨g, 0, none⟩) (n + 1) (ts ++ [(77, ⟨#[]⟩)])) (hb : Below w.heap.size w w') : CopiedT w w' n ts (.returned (.slice (some ⟨g, 0, none⟩) n cap)) := ⟨g, cap, rfl, by omega, hI, hb⟩
theorem own_form2 {w : World} {base : Nat} {e : TypeId} {v : Value} {n : Nat} {xs : List Value} (h : w.ownsRow base e 2 v n xs) : ∃ A cap, v = .slice A n cap := by
  rcases h.2 with ⟨hv, hn⟩ | ⟨g, cap, cur, hv, _⟩
  · exact ⟨none, 0, by rw [hv, hn]⟩
  · exact ⟨_, _, hv⟩
theorem markLen : [Value.int .i64 77, Value.string ⟨#[]⟩].length = 1 * 2 := rfl
theorem mark_at (w : World) : ∀ (j : Nat) u, [Value.int .i64 77, Value.string ⟨#[]⟩][j]? = some u → (w.alloc (.cells #[.int .i64 77, .string ⟨#[]⟩] 37)).cell? ((⟨w.heap.size, 0, none⟩ : Addr).add j) = some u := cell_two_at w _ _ _ rfl
theorem markOne : ∀ u ∈ [Value.int .i64 77, Value.string ⟨#[]⟩], u.oneCell' = true := by simp [Value.oneCell']

set_option maxRecDepth 100000 in
set_option maxHeartbeats 1000000 in
theorem keep_some (ad : Addr) (n c : Nat) (ts : List (Int × ByteArray)) (w : World) (hn : n ≤ 3000) (hz : TsAt w w.heap.size (some ad) n ts) :
    Calls Tryz.prog 12 #[.slice (some ad) n c] w fun e w' => CopiedT w w' n ts e := by
  obtain ⟨i0, hi, hz0, hz1, hz2⟩ := info_parts info_tok
  obtain ⟨w1, hmk, hown0, hg0⟩ := run_make_own (P := Tryz.prog) (w := w) w.heap.size 23 37 i0 (.agg #[.int .i64 0, .string ⟨#[]⟩]) 2 Tryz.underlying23 hi hz0 hz1 .i64 .i64 (n + 1) (by rw [hz2]; omega) (by unfold maxLen; omega) (Nat.le_refl _)
  have hlen1 : (tokVals (bareT ts)).length = n * 2 := by rw [tokVals_len]; simp [bareT, hz.1]
  have hnews : ∀ j u, (tokVals (bareT ts))[j]? = some u → w1.cell? (ad.add j) = some u := by
    intro j u hj
    obtain ⟨i, t, hit, hc⟩ := tokVals_get _ _ _ hj
    unfold bareT at hit
    rw [List.getElem?_map] at hit
    obtain ⟨z, hzj, rfl⟩ := Option.map_eq_some_iff.1 hit
    obtain ⟨b, o, e, hlt, k0, k1⟩ := hz.2 i z hzj
    injection e with e
    subst e
    have : (⟨b, o, none⟩ : Addr).add j = ⟨b, o + j, none⟩ := by unfold Addr.add; split <;> simp_all
    rw [this, World.cell?_of_block (hg0.block b hlt (by simp))]
    rcases hc with ⟨rfl, rfl⟩ | ⟨rfl, rfl⟩
    · exact k0
    · rw [mk_of rfl]; exact k1
  have hone : ∀ u ∈ tokVals (bareT ts), u.oneCell' = true := by
    intro u hu
    obtain ⟨j, hj⟩ := List.mem_iff_getElem?.1 hu
    obtain ⟨i, t, _, hc⟩ := tokVals_get _ _ _ hj
    rcases hc with ⟨_, rfl⟩ | ⟨_, rfl⟩ <;> rfl
  have hln : Hid (ts.length = n) := Lib.hid hz.1
  have hsz1 : w.heap.size ≤ w1.heap.size := hg0.size
  have HG0 := Lib.hid hg0
  have hcast : ((n : Int) + 1) = ((n + 1 : Nat) : Int) := by omega
  rw [← hcast] at hmk
  have hml : n + 2 ≤ maxLen := by unfold maxLen; omega
  have hml0 : 0 + n ≤ maxLen := by unfold maxLen; omega
  clear hg0 hz hcast
  go_enter Tryz.func12, Tryz.ntmps12
  go_wp2_with (first
    | (at_builtin; (with_reducible refine wpList_append_own _ rfl _ _ 23 rfl w.heap.size 37 i0 (.agg #[.int .i64 0, .string ⟨#[]⟩]) 2 24 Tryz.underlying23 hi hz0 hz1 hz2 rfl (by decide) (.slice (some ⟨w.heap.size, 0, none⟩) 0 (n + 1)) 0 [] rfl hown0 ad n c (tokVals (bareT ts)) rfl hlen1 hnews hone hml0 (by omega) hsz1 ?_); intro v2 w2 hown2 hgrow2 _; rw [Nat.zero_add, List.nil_append] at hown2; obtain ⟨A2, cap2, rfl⟩ := own_form2 hown2; have HG2 := Lib.hid hgrow2; have hs2 := hgrow2.size; clear hgrow2)
    | (at_builtin; (with_reducible refine wpList_append_own _ rfl _ _ 23 rfl w.heap.size 37 i0 (.agg #[.int .i64 0, .string ⟨#[]⟩]) 2 24 Tryz.underlying23 hi hz0 hz1 hz2 rfl (by decide) (.slice A2 n cap2) n (tokVals (bareT ts)) rfl (hown2.alloc _) ⟨w2.heap.size, 0, none⟩ 1 1 [.int .i64 77, .string ⟨#[]⟩] rfl markLen (mark_at _) markOne (by omega) (by omega) (by simp; omega) ?_); intro v3 w3 hown3 hgrow3 _; obtain ⟨A3, cap3, rfl⟩ := own_form2 hown3; obtain ⟨g3, rfl, hcap3, HI3⟩ := keep_own_more hln.out hown3; have HG3 := Lib.hid hgrow3; have HO2 := Lib.hid hown2; clear hgrow3 hown3 hown2)
    | fail)
  go_ret
  exact keep_ret hcap3 HI3.out ((((Below.refl _ _).grown HG0.out (Nat.le_refl _) (by simp)).grown HG2.out (by omega) (fun k hk => by cases hk; exact Nat.le_refl _)).alloc (by omega) _ |>.grown HG3.out (by simp; omega) (fun k hk => (HO2.out.lt k hk).1))

set_option maxRecDepth 100000 in
set_option maxHeartbeats 1000000 in
theorem keep_none (w : World) : Calls Tryz.prog 12 #[.slice none 0 0] w fun e w' => CopiedT w w' 0 [] e := by
  obtain ⟨i0, hi, hz0, hz1, hz2⟩ := info_parts info_tok
  obtain ⟨w1, hmk, hown0, hg0⟩ := run_make_own (P := Tryz.prog) (w := w) w.heap.size 23 37 i0 (.agg #[.int .i64 0, .string ⟨#[]⟩]) 2 Tryz.underlying23 hi hz0 hz1 .i64 .i64 1 (by rw [hz2]; omega) (by unfold maxLen; omega) (Nat.le_refl _)
  have hsz1 : w.heap.size ≤ w1.heap.size := hg0.size
  have HG0 := Lib.hid hg0
  have hml : 0 + 1 ≤ maxLen := by unfold maxLen; omega
  have hmk' : (Instr.makeSlice 23 (.int .i64 0) (.int .i64 1)).run Tryz.prog w = .ok (.slice (some ⟨w.heap.size, 0, none⟩) 0 1) w1 := hmk
  clear hg0 hmk
  go_enter Tryz.func12, Tryz.ntmps12
  go_wp2_with (first
    | (at_builtin; (with_reducible refine wpList_append_own_none rfl _ _ 23 rfl w.heap.size 37 i0 2 Tryz.underlying23 hi (.slice (some ⟨w.heap.size, 0, none⟩) 0 1) 0 [] rfl hown0 rfl ?_))
    | (at_builtin; (with_reducible refine wpList_append_own _ rfl _ _ 23 rfl w.heap.size 37 i0 (.agg #[.int .i64 0, .string ⟨#[]⟩]) 2 24 Tryz.underlying23 hi hz0 hz1 hz2 rfl (by decide) (.slice (some ⟨w.heap.size, 0, none⟩) 0 1) 0 [] rfl (hown0.alloc _) ⟨w1.heap.size, 0, none⟩ 1 1 [.int .i64 77, .string ⟨#[]⟩] rfl markLen (mark_at _) markOne hml (by omega) (by simp; omega) ?_); intro v3 w3 hown3 hgrow3 _; obtain ⟨A3, cap3, rfl⟩ := own_form2 hown3; obtain ⟨g3, rfl, hcap3, HI3⟩ := keep_own_more (n := 0) (ts := []) rfl hown3; have HG3 := Lib.hid hgrow3; have HO2 := Lib.hid hown0; clear hgrow3 hown3 hown0)
    | fail)
  go_ret
  exact keep_ret (n := 0) (ts := []) hcap3 HI3.out (((Below.refl _ _).grown HG0.out (Nat.le_refl _) (by simp)).alloc (by omega) _ |>.grown HG3.out (by simp; omega) (fun k hk => (HO2.out.lt k hk).1))

theorem TsAt.init {w : World} {B : Nat} {A : Option Addr} {n : Nat} {ts : List (Int × ByteArray)} {t : Int × ByteArray} (h : TsAt w B A (n + 1) (ts ++ [t])) : TsAt w B A n ts := by
  have hl : ts.length = n := by have := h.1; simp at this; exact this
  refine ⟨hl, fun j u hu => h.2 j u ?_⟩
  rw [List.getElem?_append_left (List.getElem?_eq_some_iff.1 hu).1]
  exact hu

set_option maxRecDepth 100000 in
set_option maxHeartbeats 2000000 in
theorem tstay_any (g n cap c : Nat) (A : Option Addr) (ts : List (Int × ByteArray)) (w : World) (hn : n ≤ 3000) (hc : n + 1 ≤ cap) (hI : TsAt w w.heap.size (some ⟨g, 0, none⟩) (n + 1) (ts ++ [(77, ⟨#[]⟩)])) (hz : TsAt w w.heap.size A n ts) :
    Calls Tryz.prog 17 #[.slice (some ⟨g, 0, none⟩) n cap, .slice A n c] w fun e w' => e = .returned (.bool true) ∧ Below w.heap.size w w' := by
  have hlz : ts.length = n := hz.1
  obtain ⟨b0, o0, e0, _, m0, _⟩ := hI.2 n (77, ⟨#[]⟩) (by rw [List.getElem?_append_right (by omega), hlz]; simp)
  injection e0 with e0
  injection e0 with e1 e2
  subst e1 e2
  rw [Nat.zero_add] at m0
  simp only at m0
  have en : ((n : Int) != (n : Int)) = false := by simp
  have hc1 : (n : Int) + 1 ≤ (cap : Int) := by omega
  have hn0 : (0 : Int) ≤ (n : Int) := by omega
  have HL := Lib.hid hlz
  have H1 := Lib.hid hI.init
  have H2 := Lib.hid hz
  clear hI hz hlz
  go_enter Tryz.func17, Tryz.ntmps17
  go_wp2
  go_loopg [5] n (fun g' i wx => ∃ k : Nat, k + g' = n ∧ i = .int .i64 k ∧ ∃ d, wx = w.drewN d)
  case atStart => exact ⟨0, by omega, rfl, 0, rfl⟩
  case round =>
    obtain ⟨k, hk, rfl, d, rfl⟩ := hrel
    by_cases hlt : k < n
    · have hlt' : (k : Int) < (n : Int) := by omega
      have hk0 : (0 : Int) ≤ (k : Int) := by omega
      obtain ⟨⟨z, x⟩, ht⟩ : ∃ t, ts[k]? = some t := ⟨_, List.getElem?_eq_getElem (by rw [HL.out]; omega)⟩
      obtain ⟨b, o, eb, hb, c0, c1⟩ := H1.out.2 k _ ht
      obtain ⟨b', o', rfl, hb', d0, d1⟩ := H2.out.2 k _ ht
      injection eb with eb
      injection eb with e1 e2
      subst e1 e2
      simp only [Nat.zero_add] at c0 c1 d0 d1
      have x0 : (x.toList == x.toList) = true := by simp
      clear ht
      go_wp2
      go_quiet (fail)
      go_wp2
      go_roundg (gk - 1)
      case measure => omega
      case rel => exact ⟨k + 1, by omega, by go_num, _, rfl⟩
    · obtain rfl : k = n := by omega
      go_wp2
      go_ret
      exact ⟨rfl, bdraw (Below.refl _ _) _⟩
end Go.Proofs.YtfinboplkjijhaaGreatDoor
