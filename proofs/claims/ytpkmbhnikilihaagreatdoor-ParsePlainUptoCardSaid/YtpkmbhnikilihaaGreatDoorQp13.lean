/- The landed whole[Doc], whole[Value]; Read and Value. -/
import Derived.Test.YtpkmbhnikilihaaGreatDoorQp11
import Derived.Test.YtpkmbhnikilihaaGreatDoorQp12
namespace Go.Proofs.YtpkmbhnikilihaaGreatDoor
open Go.RowKit
theorem doc_open {w : World} {P : Nat → Prop} {a : DocT} {v : Value} (h : layS encDoc w P a v) : ∃ (A0 : Option Addr) (n0 k0 : Nat) (A1 : Option Addr) (n1 k1 : Nat), v = .agg #[.slice A0 n0 k0, .slice A1 n1 k1] ∧ TS w P (encDoc a) [.slice A0 n0 k0, .slice A1 n1 k1] := by
 obtain ⟨cs, rfl, h⟩ := h
 have h0 := h
 unfold encDoc at h0
 simp only [TS, TP] at h0
 obtain ⟨c0, _, rfl, ⟨A0, k0, rfl, _, _⟩, c1, _, rfl, ⟨A1, k1, rfl, _, _⟩, rfl⟩ := h0
 exact ⟨_, _, _, _, _, _, rfl, h⟩
theorem wholeG_two {w w2 : World} {cs : Array Value} {t : TypeId} {u v : Value} {o : Obj} (h4 : w2.heap[w.heap.size]? = some (.cells cs t (0, 0))) (h5 : w2.heap[w.heap.size + 1]? = some (.cells #[u] 27 (0, 0))) :
   ((w2.setCell ⟨w.heap.size + 1, 0, none⟩ v).alloc o).heap[w.heap.size]? = some (.cells cs t (0, 0)) ∧ ((w2.setCell ⟨w.heap.size + 1, 0, none⟩ v).alloc o).heap[w.heap.size + 1]? = some (.cells #[v] 27 (0, 0)) ∧ Moved (w.heap.size + 1) w2 ((w2.setCell ⟨w.heap.size + 1, 0, none⟩ v).alloc o) ∧ w.heap.size + 2 ≤ w2.heap.size ∧ ((w2.setCell ⟨w.heap.size + 1, 0, none⟩ v).alloc o).heap.size = w2.heap.size + 1 := by
 have l5 := (Array.getElem?_eq_some_iff.1 h5).1
 have hs : (w2.setCell ⟨w.heap.size + 1, 0, none⟩ v).heap.size = w2.heap.size := by simp [World.setCell]
 refine ⟨?_, ?_, Moved.set.trans (Moved.of_below (blw _ _)), by omega, by simp [hs]⟩
 · rw [Below.heap_alloc _ _ _ (by rw [hs]; omega), Below.heap_setCell _ _ _ _ (Nat.ne_of_lt (Nat.lt_succ_self _))]; exact h4
 · rw [Below.heap_alloc _ _ _ (by rw [hs]; omega)]; exact heap_setCell_same _ _ 0 _ _ _ h5
theorem wholeG_three {w w4 : World} {cs : Array Value} {t : TypeId} {v : Value} {o : Obj} (h4 : w4.heap[w.heap.size]? = some (.cells cs t (0, 0))) (h5 : w4.heap[w.heap.size + 1]? = some (.cells #[v] 27 (0, 0))) :
  (w4.alloc o).heap[w.heap.size]? = some (.cells cs t (0, 0)) ∧ (w4.alloc o).heap[w.heap.size + 1]? = some (.cells #[v] 27 (0, 0)) ∧ (w4.alloc o).heap[w4.heap.size]? = some o :=
 ⟨(Below.heap_alloc _ _ _ (Array.getElem?_eq_some_iff.1 h4).1).trans h4, (Below.heap_alloc _ _ _ (Array.getElem?_eq_some_iff.1 h5).1).trans h5, heap_alloc_last _ _⟩
theorem whole_tree {w wx w4 : World} {s : TrS} {cs xs : List Value} {o : Obj} {v : Value} (h : TS w4 (Fresh wx w4) s cs) (hlt : w.heap.size + 2 ≤ wx.heap.size) : TS ((setAll (w4.alloc o) w.heap.size 0 xs).setCell ⟨w.heap.size + 1, 0, none⟩ v) (Fresh w ((setAll (w4.alloc o) w.heap.size 0 xs).setCell ⟨w.heap.size + 1, 0, none⟩ v)) s cs := by
 have hs : ((setAll (w4.alloc o) w.heap.size 0 xs).setCell ⟨w.heap.size + 1, 0, none⟩ v).heap.size = w4.heap.size + 1 := by
  have : ((setAll (w4.alloc o) w.heap.size 0 xs).setCell ⟨w.heap.size + 1, 0, none⟩ v).heap.size = (setAll (w4.alloc o) w.heap.size 0 xs).heap.size := by simp [World.setCell]
  rw [this, setAll_size]; simp
 refine TS.keep (fun k hk => ?_) _ _ h
 have h1 := hk.1
 have h2 := hk.2
 refine ⟨⟨by omega, by rw [hs]; omega⟩, ?_⟩
 rw [Below.heap_setCell _ _ _ _ (show k ≠ w.heap.size + 1 by omega), setAll_other (show k ≠ w.heap.size by omega), Below.heap_alloc _ _ _ h2]
def wholeA {α : Type} (R : List Tok → Except Int (α × List Tok)) (l : List UInt8) : Except Int α :=
 if (readS l).2 ≠ 0 then .error (readS l).2 else
  match R (tokB (readS l).1) with
  | .error x => .error x
  | .ok (a, r) => if r = [] then .ok a else .error 2
theorem leavesD {fn : Func} {R : Ending → World → Prop} {tmps : Array Value} {W : World} {q0 q1 u : Value} {b4 b5 : Nat} (hf : fn.results = #[.cell 4 26, .cell 5 27]) (h4 : W.heap[b4]? = some (.cells #[q0, q1] 26 (0, 0))) (h5 : W.heap[b5]? = some (.cells #[u] 27 (0, 0)))
  (t4 : tmps.getD 4 undef = .pointer (some ⟨b4, 0, none⟩)) (t5 : tmps.getD 5 undef = .pointer (some ⟨b5, 0, none⟩)) (hR : R (.returned (.tuple #[.agg #[q0, q1], u])) W) : Leaves Tryz.prog fn tmps R [] .returning W := by
 obtain ⟨k0q, k1q, kz⟩ := ptc h4
 have c5 := (one_box h5).1
 have t4' : tmps[4]?.getD undef = .pointer (some ⟨b4, 0, none⟩) := by rw [← t4]; simp
 have t5' : tmps[5]?.getD undef = .pointer (some ⟨b5, 0, none⟩) := by rw [← t5]; simp
 clear kz
 simp [Leaves, results, hf, t4', t5', asAddr, go_sem, k0q, k1q, c5]
 exact hR
set_option maxRecDepth 100000 in
theorem catchD_idle (p : Addr) (w : World) :
  CallsD Tryz.prog 93 #[.pointer (some p)] .returning w fun e u' w' => e = .returned (.tuple #[]) ∧ u' = .returning ∧ w' = w := by
 refine callsD_of_wpS Tryz.func93 rfl fun c₀ cs hu => ?_
 apply wpS_seq
 apply wpS_region
 simp [wpOpsS, go_sem, recoverD, hu, Tryz.ntmps93, Exit.thenS]
 refine wpS_of_wp ?_
 change Code.wp _ _ _ ⟨#[.pointer (some p), undef, undef, undef, .nilIface, undef, undef, undef, undef, undef, undef, undef], []⟩ _
 go_wp2_with fail
 cases c₀
 simp_all [bodyPostS, results, Tryz.results93]
set_option maxRecDepth 100000 in
theorem catchD_panicking (p : Addr) (x y : Int) (older : List PanicEntry) (w : World) (hc : w.cell? p = some (.int .i64 x)) (hz : w.frozen? p = false) (hp : p.block < w.heap.size) :
  CallsD Tryz.prog 93 #[.pointer (some p)] (.panicking ({ v := .iface 145 (.agg #[.int .i64 y]), recovered := false } :: older)) w fun e u' w' => e = .returned (.tuple #[]) ∧ u' = .panicking ({ v := .iface 145 (.agg #[.int .i64 y]), recovered := true } :: older) ∧ w' = (w.alloc (.cells #[.int .i64 y] 145)).setCell p (.int .i64 y) := by
 have hta := assert_refusal
 have hz2 : (w.alloc (.cells #[.int .i64 y] 145)).frozen? p = false := (World.frozen?_of_block (Below.heap_alloc _ _ _ hp)).trans hz
 have hc2 : (w.alloc (.cells #[.int .i64 y] 145)).cell? p = some (.int .i64 x) := (World.cell?_of_block (Below.heap_alloc _ _ _ hp)).trans hc
 refine callsD_of_wpS Tryz.func93 rfl fun c₀ cs hu => ?_
 apply wpS_seq
 apply wpS_region
 simp [wpOpsS, go_sem, recoverD, hu, Tryz.ntmps93, Exit.thenS]
 refine wpS_of_wp ?_
 change Code.wp _ _ _ ⟨#[.pointer (some p), undef, undef, undef, .iface 145 (.agg #[.int .i64 y]), undef, undef, undef, undef, undef, undef, undef], []⟩ _
 go_wp2_with fail
 cases c₀
 simp_all [bodyPostS, results, Tryz.results93]
set_option maxRecDepth 100000 in
set_option maxHeartbeats 4000000 in
theorem wholeD_no (s : ByteArray) (w : World) (hs : s.size ≤ 9000) (h3 : Laid3 w) (h5 : Laid5 w) (ts : List (Int × List UInt8)) (hl : ts.length ≤ 200000) (R : Except Int (DocT × List Tok))
   (HT : ∀ g wx, Below w.heap.size w wx → w.heap.size ≤ g → Rd wx g (tokB ts) 0 → KRd g wx → Calls Tryz.prog 42 #[.pointer (some ⟨g, 0, none⟩)] wx (Post g 0 wx (layS encDoc) R))
   (hr : readS s.data.toList = (ts, 0)) (x : Int) (hR : R = .error x) : Calls Tryz.prog 41 #[.string s, .func (.func 42) #[] #[]] w fun e w' => e = .returned (.tuple #[.agg #[.slice none 0 0, .slice none 0 0], .int .i64 x]) ∧ Below w.heap.size w w' := by
 have hmf : ∀ (fn : Fn) (first cap : Array Value) (w : World), (Instr.makeFunc fn first cap).run Tryz.prog w = .ok (.func fn first cap) w := fun _ _ _ _ => rfl
 have HR := fun wx (hb : Below w.heap.size w wx) => Hd (by have := read_any s wx hs (h3.below hb); rw [hr] at this; exact this)
 have HTT := Hd HT
 have B0 := Hd (two_below' w (.cells #[.slice none 0 0, .slice none 0 0] 26) (.cells #[.int .i64 0] 27))
 obtain ⟨y0, y1⟩ := two_heap w (.cells #[.slice none 0 0, .slice none 0 0] 26) (.cells #[.int .i64 0] 27)
 have Y := Hd (And.intro y0 y1)
 have hsz : Hid (((w.alloc (.cells #[.slice none 0 0, .slice none 0 0] 26)).alloc (.cells #[.int .i64 0] 27)).heap.size = w.heap.size + 2) := Hd (by simp)
 have H5 := Hd h5
 clear hr HT y0 y1
 go_enter_defers Tryz.func41, Tryz.ntmps41
 go_wp2_with fail
 refine (HR _ B0.out).out.mono ?_
 rintro e w2 ⟨A, cap, rfl, hown, hb2⟩
 have z4 := (hb2.block w.heap.size (by have := hsz.out; omega)).trans Y.out.1
 have z5 := (hb2.block (w.heap.size + 1) (by have := hsz.out; omega)).trans Y.out.2
 obtain ⟨k0q, k1q, kz⟩ := ptc z4
 have kf0 := kz 0
 have kf1 := kz 1
 clear kz
 obtain ⟨e0, e1⟩ := one_box z5
 have Z := Hd (And.intro z4 z5)
 have B2 := Hd (B0.out.trans (hb2.mono (by have := hsz.out; omega)))
 have OW := Hd hown
 clear hb2 hown z4 z5
 go_wp2_with fail
 have R3 := Hd (whole_rd (w := w) OW.out hl (Nat.le_of_eq hsz.out.symm) (v := .int .i64 0))
 have D3 := Hd (wholeG_two Z.out.1 Z.out.2 (v := .int .i64 0) (o := .cells #[.slice A ts.length cap, .int .i64 0] 147))
 have KR := Hd (show KRd w2.heap.size _ from ⟨w, H5.out, by have := D3.out.2.2.2.1; omega, whole_low B2.out D3.out.2.2.1 (Moved.refl _ _) D3.out.2.2.2.1⟩)
 refine (HTT.out _ _ (whole_low B2.out D3.out.2.2.1 (Moved.refl _ _) D3.out.2.2.2.1) (by have := D3.out.2.2.2.1; omega) R3.out KR.out).mono ?_
 rw [hR]
 intro e w4 h
 obtain ⟨rfl, m4⟩ := of_err h
 have z4 := m4.keep D3.out.1 (by have := D3.out.2.2.2.1; omega)
 have z5 := m4.keep D3.out.2.1 (by have := D3.out.2.2.2.1; omega)
 clear e0 e1 k0q kf0 k1q kf1
 obtain ⟨e0, e1⟩ := one_box z5
 have hlt5 := (Array.getElem?_eq_some_iff.1 z5).1
 have B4 := Hd (whole_low B2.out D3.out.2.2.1 m4 D3.out.2.2.2.1)
 have Z4 := Hd (And.intro z4 z5)
 refine leaves_cons (f := 93) (args := #[.pointer (some ⟨w.heap.size + 1, 0, none⟩)]) (by simp) (by simp [go_sem]) ?_
 refine (catchD_panicking ⟨w.heap.size + 1, 0, none⟩ 0 x [] _ e0 e1 hlt5).mono ?_
 rintro e u' w'' ⟨rfl, rfl, rfl⟩
 refine leavesD rfl (b4 := w.heap.size) (b5 := w.heap.size + 1) (u := .int .i64 x) ?_ ?_ rfl rfl ⟨rfl, ?_⟩
 · rw [Below.heap_setCell _ _ _ _ (Nat.ne_of_lt (Nat.lt_succ_self _)), Below.heap_alloc _ _ _ (by omega)]; exact Z4.out.1
 · exact heap_setCell_same _ _ 0 _ _ _ ((Below.heap_alloc _ _ _ hlt5).trans Z4.out.2)
 · exact (B4.out.alloc B4.out.size _).setCell (Nat.le_succ _) _
set_option maxRecDepth 100000 in
set_option maxHeartbeats 4000000 in
theorem wholeD_more (s : ByteArray) (w : World) (hs : s.size ≤ 9000) (h3 : Laid3 w) (h5 : Laid5 w) (ts : List (Int × List UInt8)) (hl : ts.length ≤ 200000) (R : Except Int (DocT × List Tok))
   (HT : ∀ g wx, Below w.heap.size w wx → w.heap.size ≤ g → Rd wx g (tokB ts) 0 → KRd g wx → Calls Tryz.prog 42 #[.pointer (some ⟨g, 0, none⟩)] wx (Post g 0 wx (layS encDoc) R))
   (hr : readS s.data.toList = (ts, 0)) (a : DocT) (t : Tok) (ts2 : List Tok) (hR : R = .ok (a, t :: ts2)) : Calls Tryz.prog 41 #[.string s, .func (.func 42) #[] #[]] w fun e w' => e = .returned (.tuple #[.agg #[.slice none 0 0, .slice none 0 0], .int .i64 2]) ∧ Below w.heap.size w w' := by
 have hmf : ∀ (fn : Fn) (first cap : Array Value) (w : World), (Instr.makeFunc fn first cap).run Tryz.prog w = .ok (.func fn first cap) w := fun _ _ _ _ => rfl
 have HR := fun wx (hb : Below w.heap.size w wx) => Hd (by have := read_any s wx hs (h3.below hb); rw [hr] at this; exact this)
 have HTT := Hd HT
 have B0 := Hd (two_below' w (.cells #[.slice none 0 0, .slice none 0 0] 26) (.cells #[.int .i64 0] 27))
 obtain ⟨y0, y1⟩ := two_heap w (.cells #[.slice none 0 0, .slice none 0 0] 26) (.cells #[.int .i64 0] 27)
 have Y := Hd (And.intro y0 y1)
 have hsz : Hid (((w.alloc (.cells #[.slice none 0 0, .slice none 0 0] 26)).alloc (.cells #[.int .i64 0] 27)).heap.size = w.heap.size + 2) := Hd (by simp)
 have H5 := Hd h5
 clear hr HT y0 y1
 go_enter_defers Tryz.func41, Tryz.ntmps41
 go_wp2_with fail
 refine (HR _ B0.out).out.mono ?_
 rintro e w2 ⟨A, cap, rfl, hown, hb2⟩
 have z4 := (hb2.block w.heap.size (by have := hsz.out; omega)).trans Y.out.1
 have z5 := (hb2.block (w.heap.size + 1) (by have := hsz.out; omega)).trans Y.out.2
 obtain ⟨k0q, k1q, kz⟩ := ptc z4
 have kf0 := kz 0
 have kf1 := kz 1
 clear kz
 obtain ⟨e0, e1⟩ := one_box z5
 have Z := Hd (And.intro z4 z5)
 have B2 := Hd (B0.out.trans (hb2.mono (by have := hsz.out; omega)))
 have OW := Hd hown
 clear hb2 hown z4 z5
 go_wp2_with fail
 have R3 := Hd (whole_rd (w := w) OW.out hl (Nat.le_of_eq hsz.out.symm) (v := .int .i64 0))
 have D3 := Hd (wholeG_two Z.out.1 Z.out.2 (v := .int .i64 0) (o := .cells #[.slice A ts.length cap, .int .i64 0] 147))
 have KR := Hd (show KRd w2.heap.size _ from ⟨w, H5.out, by have := D3.out.2.2.2.1; omega, whole_low B2.out D3.out.2.2.1 (Moved.refl _ _) D3.out.2.2.2.1⟩)
 refine (HTT.out _ _ (whole_low B2.out D3.out.2.2.1 (Moved.refl _ _) D3.out.2.2.2.1) (by have := D3.out.2.2.2.1; omega) R3.out KR.out).mono ?_
 rw [hR]
 intro e w4 h
 obtain ⟨⟨v, rfl, hly⟩, r4, m4⟩ := of_ok h
 obtain ⟨A0, n0, k0, A1, n1, k1, rfl, _⟩ := doc_open hly
 have z4 := m4.keep D3.out.1 (by have := D3.out.2.2.2.1; omega)
 have z5 := m4.keep D3.out.2.1 (by have := D3.out.2.2.2.1; omega)
 have B4 := Hd (whole_low B2.out D3.out.2.2.1 m4 D3.out.2.2.2.1)
 have Z4 := Hd (And.intro z4 z5)
 have HE := Hd (fun wx (hb : Below w4.heap.size w4 wx) => ended_any w2.heap.size (t :: ts2) 0 wx (r4.below hb))
 have hlt4 : w.heap.size + 1 < w4.heap.size := (Array.getElem?_eq_some_iff.1 z5).1
 clear e0 e1 k0q kf0 k1q kf1 z4 z5 r4 m4 hly h
 go_wp2_with fail
 refine (HE.out _ (blw _ _)).mono ?_
 rintro e w5 ⟨rfl, rfl⟩
 have A6 := Hd (wholeG_three Z4.out.1 Z4.out.2 (o := .cells #[.slice A0 n0 k0, .slice A1 n1 k1] 26))
 obtain ⟨e0, e1⟩ := one_box A6.out.2.1
 have hlt5 : w.heap.size + 1 < (w4.alloc (.cells #[.slice A0 n0 k0, .slice A1 n1 k1] 26)).heap.size := by simp; omega
 go_wp2_with fail
 refine leaves_cons (f := 93) (args := #[.pointer (some ⟨w.heap.size + 1, 0, none⟩)]) (by simp) (by simp [go_sem]) ?_
 refine (catchD_panicking ⟨w.heap.size + 1, 0, none⟩ 0 2 [] _ e0 e1 hlt5).mono ?_
 rintro e u' w'' ⟨rfl, rfl, rfl⟩
 refine leavesD rfl (b4 := w.heap.size) (b5 := w.heap.size + 1) (u := .int .i64 2) ?_ ?_ rfl rfl ⟨rfl, ?_⟩
 · rw [Below.heap_setCell _ _ _ _ (Nat.ne_of_lt (Nat.lt_succ_self _)), Below.heap_alloc _ _ _ (by omega)]; exact A6.out.1
 · exact heap_setCell_same _ _ 0 _ _ _ ((Below.heap_alloc _ _ _ hlt5).trans A6.out.2.1)
 · exact ((B4.out.alloc B4.out.size _).alloc (by have := B4.out.size; simp; omega) _).setCell (Nat.le_succ _) _
set_option maxRecDepth 100000 in
set_option maxHeartbeats 4000000 in
theorem wholeD_yes (s : ByteArray) (w : World) (hs : s.size ≤ 9000) (h3 : Laid3 w) (h5 : Laid5 w) (ts : List (Int × List UInt8)) (hl : ts.length ≤ 200000) (R : Except Int (DocT × List Tok))
  (HT : ∀ g wx, Below w.heap.size w wx → w.heap.size ≤ g → Rd wx g (tokB ts) 0 → KRd g wx → Calls Tryz.prog 42 #[.pointer (some ⟨g, 0, none⟩)] wx (Post g 0 wx (layS encDoc) R))
  (hr : readS s.data.toList = (ts, 0)) (a : DocT) (hR : R = .ok (a, [])) : Calls Tryz.prog 41 #[.string s, .func (.func 42) #[] #[]] w fun e w' => ∃ cs : List Value, e = .returned (.tuple #[.agg cs.toArray, .int .i64 0]) ∧ TS w' (Fresh w w') (encDoc a) cs ∧ Below w.heap.size w w' := by
 have hmf : ∀ (fn : Fn) (first cap : Array Value) (w : World), (Instr.makeFunc fn first cap).run Tryz.prog w = .ok (.func fn first cap) w := fun _ _ _ _ => rfl
 have HR := fun wx (hb : Below w.heap.size w wx) => Hd (by have := read_any s wx hs (h3.below hb); rw [hr] at this; exact this)
 have HTT := Hd HT
 have B0 := Hd (two_below' w (.cells #[.slice none 0 0, .slice none 0 0] 26) (.cells #[.int .i64 0] 27))
 obtain ⟨y0, y1⟩ := two_heap w (.cells #[.slice none 0 0, .slice none 0 0] 26) (.cells #[.int .i64 0] 27)
 have Y := Hd (And.intro y0 y1)
 have hsz : Hid (((w.alloc (.cells #[.slice none 0 0, .slice none 0 0] 26)).alloc (.cells #[.int .i64 0] 27)).heap.size = w.heap.size + 2) := Hd (by simp)
 have H5 := Hd h5
 clear hr HT y0 y1
 go_enter_defers Tryz.func41, Tryz.ntmps41
 go_wp2_with fail
 refine (HR _ B0.out).out.mono ?_
 rintro e w2 ⟨A, cap, rfl, hown, hb2⟩
 have z4 := (hb2.block w.heap.size (by have := hsz.out; omega)).trans Y.out.1
 have z5 := (hb2.block (w.heap.size + 1) (by have := hsz.out; omega)).trans Y.out.2
 obtain ⟨k0q, k1q, kz⟩ := ptc z4
 have kf0 := kz 0
 have kf1 := kz 1
 clear kz
 obtain ⟨e0, e1⟩ := one_box z5
 have Z := Hd (And.intro z4 z5)
 have B2 := Hd (B0.out.trans (hb2.mono (by have := hsz.out; omega)))
 have OW := Hd hown
 clear hb2 hown z4 z5
 go_wp2_with fail
 have R3 := Hd (whole_rd (w := w) OW.out hl (Nat.le_of_eq hsz.out.symm) (v := .int .i64 0))
 have D3 := Hd (wholeG_two Z.out.1 Z.out.2 (v := .int .i64 0) (o := .cells #[.slice A ts.length cap, .int .i64 0] 147))
 have KR := Hd (show KRd w2.heap.size _ from ⟨w, H5.out, by have := D3.out.2.2.2.1; omega, whole_low B2.out D3.out.2.2.1 (Moved.refl _ _) D3.out.2.2.2.1⟩)
 refine (HTT.out _ _ (whole_low B2.out D3.out.2.2.1 (Moved.refl _ _) D3.out.2.2.2.1) (by have := D3.out.2.2.2.1; omega) R3.out KR.out).mono ?_
 rw [hR]
 intro e w4 h
 obtain ⟨⟨v, rfl, hly⟩, r4, m4⟩ := of_ok h
 obtain ⟨A0, n0, k0, A1, n1, k1, rfl, hts⟩ := doc_open hly
 have z4 := m4.keep D3.out.1 (by have := D3.out.2.2.2.1; omega)
 have z5 := m4.keep D3.out.2.1 (by have := D3.out.2.2.2.1; omega)
 have B4 := Hd (whole_low B2.out D3.out.2.2.1 m4 D3.out.2.2.2.1)
 have Z4 := Hd (And.intro z4 z5)
 have TT := Hd hts
 have HE := Hd (fun wx (hb : Below w4.heap.size w4 wx) => ended_any w2.heap.size [] 0 wx (r4.below hb))
 have hlt4 : w.heap.size + 1 < w4.heap.size := (Array.getElem?_eq_some_iff.1 z5).1
 clear e0 e1 k0q kf0 k1q kf1 z4 z5 r4 m4 hly hts h
 go_wp2_with fail
 refine (HE.out _ (blw _ _)).mono ?_
 rintro e w5 ⟨rfl, rfl⟩
 have A6 := Hd (wholeG_three Z4.out.1 Z4.out.2 (o := .cells #[.slice A0 n0 k0, .slice A1 n1 k1] 26))
 obtain ⟨k0q, k1q, kz⟩ := ptc A6.out.1
 have kf0 := kz 0
 have kf1 := kz 1
 clear kz
 obtain ⟨e0, e1⟩ := one_box A6.out.2.1
 obtain ⟨j0q, j1q, jz⟩ := ptc A6.out.2.2
 have jf0 := jz 0
 have jf1 := jz 1
 clear jz
 go_wp2_with fail
 refine leaves_cons (f := 93) (args := #[.pointer (some ⟨w.heap.size + 1, 0, none⟩)]) (by simp) (by simp [go_sem]) ?_
 refine (catchD_idle ⟨w.heap.size + 1, 0, none⟩ _).mono ?_
 rintro e u' w'' ⟨rfl, rfl, rfl⟩
 have f1 := setAll_row (b := w.heap.size) (t := 26) (ys := [.slice none 0 0, .slice none 0 0]) (xs := [.slice A0 n0 k0, .slice A1 n1 k1]) rfl A6.out.1
 have f2 := (setAll_other (b := w.heap.size) (k := w.heap.size + 1) (by omega) [.slice A0 n0 k0, .slice A1 n1 k1] 0 _).trans A6.out.2.1
 have f3 := below_setAll (Nat.le_refl _) [.slice A0 n0 k0, .slice A1 n1 k1] 0 _ (B4.out.alloc B4.out.size (.cells #[.slice A0 n0 k0, .slice A1 n1 k1] 26))
 refine leavesD rfl (b4 := w.heap.size) (b5 := w.heap.size + 1) (u := .int .i64 0) ((Below.heap_setCell _ _ _ _ (Nat.ne_of_lt (Nat.lt_succ_self _))).trans f1) (heap_setCell_same _ _ 0 _ _ _ f2) rfl rfl ⟨_, rfl, whole_tree (w := w) (xs := [.slice A0 n0 k0, .slice A1 n1 k1]) (o := .cells #[.slice A0 n0 k0, .slice A1 n1 k1] 26) (v := .int .i64 0) TT.out (by have h8 := D3.out.2.2.2.1; have h9 := D3.out.2.2.2.2; omega), f3.setCell (Nat.le_succ _) _⟩
set_option maxRecDepth 100000 in
set_option maxHeartbeats 4000000 in
theorem wholeD_err (s : ByteArray) (w : World) (hs : s.size ≤ 9000) (h3 : Laid3 w) (ts : List (Int × List UInt8)) (x : Int) (hx : x ≠ 0) (hr : readS s.data.toList = (ts, x)) : Calls Tryz.prog 41 #[.string s, .func (.func 42) #[] #[]] w fun e w' => e = .returned (.tuple #[.agg #[.slice none 0 0, .slice none 0 0], .int .i64 x]) ∧ Below w.heap.size w w' := by
 have HR := fun wx (hb : Below w.heap.size w wx) => Hd (by have := read_any s wx hs (h3.below hb); rw [hr] at this; exact this)
 have B0 := Hd (two_below' w (.cells #[.slice none 0 0, .slice none 0 0] 26) (.cells #[.int .i64 0] 27))
 obtain ⟨y0, y1⟩ := two_heap w (.cells #[.slice none 0 0, .slice none 0 0] 26) (.cells #[.int .i64 0] 27)
 have Y := Hd (And.intro y0 y1)
 have hsz : Hid (((w.alloc (.cells #[.slice none 0 0, .slice none 0 0] 26)).alloc (.cells #[.int .i64 0] 27)).heap.size = w.heap.size + 2) := Hd (by simp)
 have hx' : (x != 0) = true := by simpa using hx
 clear hr y0 y1 hx
 go_enter_defers Tryz.func41, Tryz.ntmps41
 go_wp2_with fail
 refine (HR _ B0.out).out.mono ?_
 rintro e w2 ⟨A, cap, rfl, hown, hb2⟩
 have z4 := (hb2.block w.heap.size (by have := hsz.out; omega)).trans Y.out.1
 have z5 := (hb2.block (w.heap.size + 1) (by have := hsz.out; omega)).trans Y.out.2
 obtain ⟨k0q, k1q, kz⟩ := ptc z4
 have kf0 := kz 0
 have kf1 := kz 1
 clear kz
 obtain ⟨e0, e1⟩ := one_box z5
 have Z := Hd (And.intro z4 z5)
 have B2 := Hd (B0.out.trans (hb2.mono (by have := hsz.out; omega)))
 clear hb2 hown z4 z5
 go_wp2_with fail
 have D := Hd (show (w2.setCell ⟨w.heap.size + 1, 0, none⟩ (.int .i64 x)).heap[w.heap.size]? = some (.cells #[.slice none 0 0, .slice none 0 0] 26 (0, 0)) ∧ (w2.setCell ⟨w.heap.size + 1, 0, none⟩ (.int .i64 x)).heap[w.heap.size + 1]? = some (.cells #[.int .i64 x] 27 (0, 0)) from ⟨set_other' Z.out.1 (by omega), heap_setCell_same _ _ 0 _ _ _ Z.out.2⟩)
 clear k0q kf0 k1q kf1 e0 e1
 have BD := Hd (B2.out.setCell (p := ⟨w.heap.size + 1, 0, none⟩) (Nat.le_succ _) (.int .i64 x))
 obtain ⟨k0q, k1q, kz⟩ := ptc D.out.1
 have kf0 := kz 0
 have kf1 := kz 1
 clear kz
 obtain ⟨e0, e1⟩ := one_box D.out.2
 generalize (w2.setCell ⟨w.heap.size + 1, 0, none⟩ (.int .i64 x)) = w3 at *
 go_region
 go_wp2_with fail
 simp only [bodyPostD]
 have f1 := setAll_row (b := w.heap.size) (t := 26) (ys := [.slice none 0 0, .slice none 0 0]) (xs := [.slice none 0 0, .slice none 0 0]) rfl D.out.1
 have f2 := (setAll_other (b := w.heap.size) (k := w.heap.size + 1) (by omega) [.slice none 0 0, .slice none 0 0] 0 _).trans D.out.2
 have f3 := below_setAll (Nat.le_refl _) [.slice none 0 0, .slice none 0 0] 0 _ BD.out
 refine leavesD rfl (b4 := w.heap.size) (b5 := w.heap.size + 1) (q0 := .slice none 0 0) (q1 := .slice none 0 0) (u := .int .i64 x) ((Below.heap_setCell _ _ _ _ (Nat.ne_of_lt (Nat.lt_succ_self _))).trans f1) (heap_setCell_same _ _ 0 _ _ _ f2) rfl rfl ⟨rfl, ?_⟩
 · exact Below.drew (f3.setCell (Nat.le_succ _) _)
theorem leavesV {fn : Func} {R : Ending → World → Prop} {tmps : Array Value} {W : World} {q0 q1 q2 q3 q4 u : Value} {b4 b5 : Nat} (hf : fn.results = #[.cell 4 35, .cell 5 27]) (h4 : W.heap[b4]? = some (.cells #[q0, q1, q2, q3, q4] 35 (0, 0))) (h5 : W.heap[b5]? = some (.cells #[u] 27 (0, 0)))
  (t4 : tmps.getD 4 undef = .pointer (some ⟨b4, 0, none⟩)) (t5 : tmps.getD 5 undef = .pointer (some ⟨b5, 0, none⟩)) (hR : R (.returned (.tuple #[.agg #[q0, q1, q2, q3, q4], u])) W) : Leaves Tryz.prog fn tmps R [] .returning W := by
 obtain ⟨k0q, k1q, k2q, k3q, k4q, kz⟩ := gfv_cells h4
 have c5 := (one_box h5).1
 have t4' : tmps[4]?.getD undef = .pointer (some ⟨b4, 0, none⟩) := by rw [← t4]; simp
 have t5' : tmps[5]?.getD undef = .pointer (some ⟨b5, 0, none⟩) := by rw [← t5]; simp
 clear kz
 simp [Leaves, results, hf, t4', t5', asAddr, go_sem, k0q, k1q, k2q, k3q, k4q, c5]
 exact hR
set_option maxRecDepth 100000 in
theorem catchV_idle (p : Addr) (w : World) :
  CallsD Tryz.prog 114 #[.pointer (some p)] .returning w fun e u' w' => e = .returned (.tuple #[]) ∧ u' = .returning ∧ w' = w := by
 refine callsD_of_wpS Tryz.func114 rfl fun c₀ cs hu => ?_
 apply wpS_seq
 apply wpS_region
 simp [wpOpsS, go_sem, recoverD, hu, Tryz.ntmps114, Exit.thenS]
 refine wpS_of_wp ?_
 change Code.wp _ _ _ ⟨#[.pointer (some p), undef, undef, undef, .nilIface, undef, undef, undef, undef, undef, undef, undef], []⟩ _
 go_wp2_with fail
 cases c₀
 simp_all [bodyPostS, results, Tryz.results114]
set_option maxRecDepth 100000 in
theorem catchV_panicking (p : Addr) (x y : Int) (older : List PanicEntry) (w : World) (hc : w.cell? p = some (.int .i64 x)) (hz : w.frozen? p = false) (hp : p.block < w.heap.size) :
  CallsD Tryz.prog 114 #[.pointer (some p)] (.panicking ({ v := .iface 145 (.agg #[.int .i64 y]), recovered := false } :: older)) w fun e u' w' => e = .returned (.tuple #[]) ∧ u' = .panicking ({ v := .iface 145 (.agg #[.int .i64 y]), recovered := true } :: older) ∧ w' = (w.alloc (.cells #[.int .i64 y] 145)).setCell p (.int .i64 y) := by
 have hta := assert_refusal
 have hz2 : (w.alloc (.cells #[.int .i64 y] 145)).frozen? p = false := (World.frozen?_of_block (Below.heap_alloc _ _ _ hp)).trans hz
 have hc2 : (w.alloc (.cells #[.int .i64 y] 145)).cell? p = some (.int .i64 x) := (World.cell?_of_block (Below.heap_alloc _ _ _ hp)).trans hc
 refine callsD_of_wpS Tryz.func114 rfl fun c₀ cs hu => ?_
 apply wpS_seq
 apply wpS_region
 simp [wpOpsS, go_sem, recoverD, hu, Tryz.ntmps114, Exit.thenS]
 refine wpS_of_wp ?_
 change Code.wp _ _ _ ⟨#[.pointer (some p), undef, undef, undef, .iface 145 (.agg #[.int .i64 y]), undef, undef, undef, undef, undef, undef, undef], []⟩ _
 go_wp2_with fail
 cases c₀
 simp_all [bodyPostS, results, Tryz.results114]
set_option maxRecDepth 100000 in
set_option maxHeartbeats 4000000 in
theorem wholeV_no (bx : Nat) (s : ByteArray) (w : World) (hs : s.size ≤ 9000) (h3 : Laid3 w) (h5 : Laid5 w) (ts : List (Int × List UInt8)) (hl : ts.length ≤ 200000) (R : Except Int (VT × List Tok))
   (HT : ∀ g wx, Below w.heap.size w wx → w.heap.size ≤ g → Rd wx g (tokB ts) 0 → KRd g wx → Calls Tryz.prog 48 #[.pointer (some ⟨g, 0, none⟩), .pointer (some ⟨bx, 0, none⟩)] wx (Post g 0 wx (layS encV) R))
   (hr : readS s.data.toList = (ts, 0)) (x : Int) (hR : R = .error x) : Calls Tryz.prog 47 #[.string s, .func (.func 48) #[] #[.pointer (some ⟨bx, 0, none⟩)]] w fun e w' => e = .returned (.tuple #[.agg #[.int .i64 0, .int .i64 0, .string ⟨#[]⟩, .slice none 0 0, .slice none 0 0], .int .i64 x]) ∧ Below w.heap.size w w' := by
 have hmf : ∀ (fn : Fn) (first cap : Array Value) (w : World), (Instr.makeFunc fn first cap).run Tryz.prog w = .ok (.func fn first cap) w := fun _ _ _ _ => rfl
 have HR := fun wx (hb : Below w.heap.size w wx) => Hd (by have := read_any s wx hs (h3.below hb); rw [hr] at this; exact this)
 have HTT := Hd HT
 have B0 := Hd (two_below' w (.cells #[.int .i64 0, .int .i64 0, .string ⟨#[]⟩, .slice none 0 0, .slice none 0 0] 35) (.cells #[.int .i64 0] 27))
 obtain ⟨y0, y1⟩ := two_heap w (.cells #[.int .i64 0, .int .i64 0, .string ⟨#[]⟩, .slice none 0 0, .slice none 0 0] 35) (.cells #[.int .i64 0] 27)
 have Y := Hd (And.intro y0 y1)
 have hsz : Hid (((w.alloc (.cells #[.int .i64 0, .int .i64 0, .string ⟨#[]⟩, .slice none 0 0, .slice none 0 0] 35)).alloc (.cells #[.int .i64 0] 27)).heap.size = w.heap.size + 2) := Hd (by simp)
 have H5 := Hd h5
 clear hr HT y0 y1
 go_enter_defers Tryz.func47, Tryz.ntmps47
 go_wp2_with fail
 refine (HR _ B0.out).out.mono ?_
 rintro e w2 ⟨A, cap, rfl, hown, hb2⟩
 have z4 := (hb2.block w.heap.size (by have := hsz.out; omega)).trans Y.out.1
 have z5 := (hb2.block (w.heap.size + 1) (by have := hsz.out; omega)).trans Y.out.2
 obtain ⟨k0q, k1q, k2q, k3q, k4q, kz⟩ := gfv_cells z4
 have kf0 := kz 0
 have kf1 := kz 1
 have kf2 := kz 2
 have kf3 := kz 3
 have kf4 := kz 4
 clear kz
 obtain ⟨e0, e1⟩ := one_box z5
 have Z := Hd (And.intro z4 z5)
 have B2 := Hd (B0.out.trans (hb2.mono (by have := hsz.out; omega)))
 have OW := Hd hown
 clear hb2 hown z4 z5
 go_wp2_with fail
 have R3 := Hd (whole_rd (w := w) OW.out hl (Nat.le_of_eq hsz.out.symm) (v := .int .i64 0))
 have D3 := Hd (wholeG_two Z.out.1 Z.out.2 (v := .int .i64 0) (o := .cells #[.slice A ts.length cap, .int .i64 0] 147))
 have KR := Hd (show KRd w2.heap.size _ from ⟨w, H5.out, by have := D3.out.2.2.2.1; omega, whole_low B2.out D3.out.2.2.1 (Moved.refl _ _) D3.out.2.2.2.1⟩)
 refine (HTT.out _ _ (whole_low B2.out D3.out.2.2.1 (Moved.refl _ _) D3.out.2.2.2.1) (by have := D3.out.2.2.2.1; omega) R3.out KR.out).mono ?_
 rw [hR]
 intro e w4 h
 obtain ⟨rfl, m4⟩ := of_err h
 have z4 := m4.keep D3.out.1 (by have := D3.out.2.2.2.1; omega)
 have z5 := m4.keep D3.out.2.1 (by have := D3.out.2.2.2.1; omega)
 clear e0 e1 k0q kf0 k1q kf1 k2q kf2 k3q kf3 k4q kf4
 obtain ⟨e0, e1⟩ := one_box z5
 have hlt5 := (Array.getElem?_eq_some_iff.1 z5).1
 have B4 := Hd (whole_low B2.out D3.out.2.2.1 m4 D3.out.2.2.2.1)
 have Z4 := Hd (And.intro z4 z5)
 refine leaves_cons (f := 114) (args := #[.pointer (some ⟨w.heap.size + 1, 0, none⟩)]) (by simp) (by simp [go_sem]) ?_
 refine (catchV_panicking ⟨w.heap.size + 1, 0, none⟩ 0 x [] _ e0 e1 hlt5).mono ?_
 rintro e u' w'' ⟨rfl, rfl, rfl⟩
 refine leavesV rfl (b4 := w.heap.size) (b5 := w.heap.size + 1) (u := .int .i64 x) ?_ ?_ rfl rfl ⟨rfl, ?_⟩
 · rw [Below.heap_setCell _ _ _ _ (Nat.ne_of_lt (Nat.lt_succ_self _)), Below.heap_alloc _ _ _ (by omega)]; exact Z4.out.1
 · exact heap_setCell_same _ _ 0 _ _ _ ((Below.heap_alloc _ _ _ hlt5).trans Z4.out.2)
 · exact (B4.out.alloc B4.out.size _).setCell (Nat.le_succ _) _
set_option maxRecDepth 100000 in
set_option maxHeartbeats 4000000 in
theorem wholeV_more (bx : Nat) (s : ByteArray) (w : World) (hs : s.size ≤ 9000) (h3 : Laid3 w) (h5 : Laid5 w) (ts : List (Int × List UInt8)) (hl : ts.length ≤ 200000) (R : Except Int (VT × List Tok))
   (HT : ∀ g wx, Below w.heap.size w wx → w.heap.size ≤ g → Rd wx g (tokB ts) 0 → KRd g wx → Calls Tryz.prog 48 #[.pointer (some ⟨g, 0, none⟩), .pointer (some ⟨bx, 0, none⟩)] wx (Post g 0 wx (layS encV) R))
   (hr : readS s.data.toList = (ts, 0)) (a : VT) (t : Tok) (ts2 : List Tok) (hR : R = .ok (a, t :: ts2)) : Calls Tryz.prog 47 #[.string s, .func (.func 48) #[] #[.pointer (some ⟨bx, 0, none⟩)]] w fun e w' => e = .returned (.tuple #[.agg #[.int .i64 0, .int .i64 0, .string ⟨#[]⟩, .slice none 0 0, .slice none 0 0], .int .i64 2]) ∧ Below w.heap.size w w' := by
 have hmf : ∀ (fn : Fn) (first cap : Array Value) (w : World), (Instr.makeFunc fn first cap).run Tryz.prog w = .ok (.func fn first cap) w := fun _ _ _ _ => rfl
 have HR := fun wx (hb : Below w.heap.size w wx) => Hd (by have := read_any s wx hs (h3.below hb); rw [hr] at this; exact this)
 have HTT := Hd HT
 have B0 := Hd (two_below' w (.cells #[.int .i64 0, .int .i64 0, .string ⟨#[]⟩, .slice none 0 0, .slice none 0 0] 35) (.cells #[.int .i64 0] 27))
 obtain ⟨y0, y1⟩ := two_heap w (.cells #[.int .i64 0, .int .i64 0, .string ⟨#[]⟩, .slice none 0 0, .slice none 0 0] 35) (.cells #[.int .i64 0] 27)
 have Y := Hd (And.intro y0 y1)
 have hsz : Hid (((w.alloc (.cells #[.int .i64 0, .int .i64 0, .string ⟨#[]⟩, .slice none 0 0, .slice none 0 0] 35)).alloc (.cells #[.int .i64 0] 27)).heap.size = w.heap.size + 2) := Hd (by simp)
 have H5 := Hd h5
 clear hr HT y0 y1
 go_enter_defers Tryz.func47, Tryz.ntmps47
 go_wp2_with fail
 refine (HR _ B0.out).out.mono ?_
 rintro e w2 ⟨A, cap, rfl, hown, hb2⟩
 have z4 := (hb2.block w.heap.size (by have := hsz.out; omega)).trans Y.out.1
 have z5 := (hb2.block (w.heap.size + 1) (by have := hsz.out; omega)).trans Y.out.2
 obtain ⟨k0q, k1q, k2q, k3q, k4q, kz⟩ := gfv_cells z4
 have kf0 := kz 0
 have kf1 := kz 1
 have kf2 := kz 2
 have kf3 := kz 3
 have kf4 := kz 4
 clear kz
 obtain ⟨e0, e1⟩ := one_box z5
 have Z := Hd (And.intro z4 z5)
 have B2 := Hd (B0.out.trans (hb2.mono (by have := hsz.out; omega)))
 have OW := Hd hown
 clear hb2 hown z4 z5
 go_wp2_with fail
 have R3 := Hd (whole_rd (w := w) OW.out hl (Nat.le_of_eq hsz.out.symm) (v := .int .i64 0))
 have D3 := Hd (wholeG_two Z.out.1 Z.out.2 (v := .int .i64 0) (o := .cells #[.slice A ts.length cap, .int .i64 0] 147))
 have KR := Hd (show KRd w2.heap.size _ from ⟨w, H5.out, by have := D3.out.2.2.2.1; omega, whole_low B2.out D3.out.2.2.1 (Moved.refl _ _) D3.out.2.2.2.1⟩)
 refine (HTT.out _ _ (whole_low B2.out D3.out.2.2.1 (Moved.refl _ _) D3.out.2.2.2.1) (by have := D3.out.2.2.2.1; omega) R3.out KR.out).mono ?_
 rw [hR]
 intro e w4 h
 obtain ⟨⟨v, rfl, hly⟩, r4, m4⟩ := of_ok h
 obtain ⟨vk, vn, vs, A3, n3, k3, A4, n4, k4, rfl, _⟩ := val_open hly
 have z4 := m4.keep D3.out.1 (by have := D3.out.2.2.2.1; omega)
 have z5 := m4.keep D3.out.2.1 (by have := D3.out.2.2.2.1; omega)
 have B4 := Hd (whole_low B2.out D3.out.2.2.1 m4 D3.out.2.2.2.1)
 have Z4 := Hd (And.intro z4 z5)
 have HE := Hd (fun wx (hb : Below w4.heap.size w4 wx) => ended_any w2.heap.size (t :: ts2) 0 wx (r4.below hb))
 have hlt4 : w.heap.size + 1 < w4.heap.size := (Array.getElem?_eq_some_iff.1 z5).1
 clear e0 e1 k0q kf0 k1q kf1 k2q kf2 k3q kf3 k4q kf4 z4 z5 r4 m4 hly h
 go_wp2_with fail
 refine (HE.out _ (blw _ _)).mono ?_
 rintro e w5 ⟨rfl, rfl⟩
 have A6 := Hd (wholeG_three Z4.out.1 Z4.out.2 (o := .cells #[.int .i64 vk, .int .i64 vn, .string vs, .slice A3 n3 k3, .slice A4 n4 k4] 35))
 obtain ⟨e0, e1⟩ := one_box A6.out.2.1
 have hlt5 : w.heap.size + 1 < (w4.alloc (.cells #[.int .i64 vk, .int .i64 vn, .string vs, .slice A3 n3 k3, .slice A4 n4 k4] 35)).heap.size := by simp; omega
 go_wp2_with fail
 refine leaves_cons (f := 114) (args := #[.pointer (some ⟨w.heap.size + 1, 0, none⟩)]) (by simp) (by simp [go_sem]) ?_
 refine (catchV_panicking ⟨w.heap.size + 1, 0, none⟩ 0 2 [] _ e0 e1 hlt5).mono ?_
 rintro e u' w'' ⟨rfl, rfl, rfl⟩
 refine leavesV rfl (b4 := w.heap.size) (b5 := w.heap.size + 1) (u := .int .i64 2) ?_ ?_ rfl rfl ⟨rfl, ?_⟩
 · rw [Below.heap_setCell _ _ _ _ (Nat.ne_of_lt (Nat.lt_succ_self _)), Below.heap_alloc _ _ _ (by omega)]; exact A6.out.1
 · exact heap_setCell_same _ _ 0 _ _ _ ((Below.heap_alloc _ _ _ hlt5).trans A6.out.2.1)
 · exact ((B4.out.alloc B4.out.size _).alloc (by have := B4.out.size; simp; omega) _).setCell (Nat.le_succ _) _
set_option maxRecDepth 100000 in
set_option maxHeartbeats 4000000 in
theorem wholeV_yes (bx : Nat) (s : ByteArray) (w : World) (hs : s.size ≤ 9000) (h3 : Laid3 w) (h5 : Laid5 w) (ts : List (Int × List UInt8)) (hl : ts.length ≤ 200000) (R : Except Int (VT × List Tok))
  (HT : ∀ g wx, Below w.heap.size w wx → w.heap.size ≤ g → Rd wx g (tokB ts) 0 → KRd g wx → Calls Tryz.prog 48 #[.pointer (some ⟨g, 0, none⟩), .pointer (some ⟨bx, 0, none⟩)] wx (Post g 0 wx (layS encV) R))
  (hr : readS s.data.toList = (ts, 0)) (a : VT) (hR : R = .ok (a, [])) : Calls Tryz.prog 47 #[.string s, .func (.func 48) #[] #[.pointer (some ⟨bx, 0, none⟩)]] w fun e w' => ∃ cs : List Value, e = .returned (.tuple #[.agg cs.toArray, .int .i64 0]) ∧ TS w' (Fresh w w') (encV a) cs ∧ Below w.heap.size w w' := by
 have hmf : ∀ (fn : Fn) (first cap : Array Value) (w : World), (Instr.makeFunc fn first cap).run Tryz.prog w = .ok (.func fn first cap) w := fun _ _ _ _ => rfl
 have HR := fun wx (hb : Below w.heap.size w wx) => Hd (by have := read_any s wx hs (h3.below hb); rw [hr] at this; exact this)
 have HTT := Hd HT
 have B0 := Hd (two_below' w (.cells #[.int .i64 0, .int .i64 0, .string ⟨#[]⟩, .slice none 0 0, .slice none 0 0] 35) (.cells #[.int .i64 0] 27))
 obtain ⟨y0, y1⟩ := two_heap w (.cells #[.int .i64 0, .int .i64 0, .string ⟨#[]⟩, .slice none 0 0, .slice none 0 0] 35) (.cells #[.int .i64 0] 27)
 have Y := Hd (And.intro y0 y1)
 have hsz : Hid (((w.alloc (.cells #[.int .i64 0, .int .i64 0, .string ⟨#[]⟩, .slice none 0 0, .slice none 0 0] 35)).alloc (.cells #[.int .i64 0] 27)).heap.size = w.heap.size + 2) := Hd (by simp)
 have H5 := Hd h5
 clear hr HT y0 y1
 go_enter_defers Tryz.func47, Tryz.ntmps47
 go_wp2_with fail
 refine (HR _ B0.out).out.mono ?_
 rintro e w2 ⟨A, cap, rfl, hown, hb2⟩
 have z4 := (hb2.block w.heap.size (by have := hsz.out; omega)).trans Y.out.1
 have z5 := (hb2.block (w.heap.size + 1) (by have := hsz.out; omega)).trans Y.out.2
 obtain ⟨k0q, k1q, k2q, k3q, k4q, kz⟩ := gfv_cells z4
 have kf0 := kz 0
 have kf1 := kz 1
 have kf2 := kz 2
 have kf3 := kz 3
 have kf4 := kz 4
 clear kz
 obtain ⟨e0, e1⟩ := one_box z5
 have Z := Hd (And.intro z4 z5)
 have B2 := Hd (B0.out.trans (hb2.mono (by have := hsz.out; omega)))
 have OW := Hd hown
 clear hb2 hown z4 z5
 go_wp2_with fail
 have R3 := Hd (whole_rd (w := w) OW.out hl (Nat.le_of_eq hsz.out.symm) (v := .int .i64 0))
 have D3 := Hd (wholeG_two Z.out.1 Z.out.2 (v := .int .i64 0) (o := .cells #[.slice A ts.length cap, .int .i64 0] 147))
 have KR := Hd (show KRd w2.heap.size _ from ⟨w, H5.out, by have := D3.out.2.2.2.1; omega, whole_low B2.out D3.out.2.2.1 (Moved.refl _ _) D3.out.2.2.2.1⟩)
 refine (HTT.out _ _ (whole_low B2.out D3.out.2.2.1 (Moved.refl _ _) D3.out.2.2.2.1) (by have := D3.out.2.2.2.1; omega) R3.out KR.out).mono ?_
 rw [hR]
 intro e w4 h
 obtain ⟨⟨v, rfl, hly⟩, r4, m4⟩ := of_ok h
 obtain ⟨vk, vn, vs, A3, n3, k3, A4, n4, k4, rfl, hts⟩ := val_open hly
 have z4 := m4.keep D3.out.1 (by have := D3.out.2.2.2.1; omega)
 have z5 := m4.keep D3.out.2.1 (by have := D3.out.2.2.2.1; omega)
 have B4 := Hd (whole_low B2.out D3.out.2.2.1 m4 D3.out.2.2.2.1)
 have Z4 := Hd (And.intro z4 z5)
 have TT := Hd hts
 have HE := Hd (fun wx (hb : Below w4.heap.size w4 wx) => ended_any w2.heap.size [] 0 wx (r4.below hb))
 have hlt4 : w.heap.size + 1 < w4.heap.size := (Array.getElem?_eq_some_iff.1 z5).1
 clear e0 e1 k0q kf0 k1q kf1 k2q kf2 k3q kf3 k4q kf4 z4 z5 r4 m4 hly hts h
 go_wp2_with fail
 refine (HE.out _ (blw _ _)).mono ?_
 rintro e w5 ⟨rfl, rfl⟩
 have A6 := Hd (wholeG_three Z4.out.1 Z4.out.2 (o := .cells #[.int .i64 vk, .int .i64 vn, .string vs, .slice A3 n3 k3, .slice A4 n4 k4] 35))
 obtain ⟨k0q, k1q, k2q, k3q, k4q, kz⟩ := gfv_cells A6.out.1
 have kf0 := kz 0
 have kf1 := kz 1
 have kf2 := kz 2
 have kf3 := kz 3
 have kf4 := kz 4
 clear kz
 obtain ⟨e0, e1⟩ := one_box A6.out.2.1
 obtain ⟨j0q, j1q, j2q, j3q, j4q, jz⟩ := gfv_cells A6.out.2.2
 have jf0 := jz 0
 have jf1 := jz 1
 have jf2 := jz 2
 have jf3 := jz 3
 have jf4 := jz 4
 clear jz
 go_wp2_with fail
 refine leaves_cons (f := 114) (args := #[.pointer (some ⟨w.heap.size + 1, 0, none⟩)]) (by simp) (by simp [go_sem]) ?_
 refine (catchV_idle ⟨w.heap.size + 1, 0, none⟩ _).mono ?_
 rintro e u' w'' ⟨rfl, rfl, rfl⟩
 have f1 := setAll_row (b := w.heap.size) (t := 35) (ys := [.int .i64 0, .int .i64 0, .string ⟨#[]⟩, .slice none 0 0, .slice none 0 0]) (xs := [.int .i64 vk, .int .i64 vn, .string vs, .slice A3 n3 k3, .slice A4 n4 k4]) rfl A6.out.1
 have f2 := (setAll_other (b := w.heap.size) (k := w.heap.size + 1) (by omega) [.int .i64 vk, .int .i64 vn, .string vs, .slice A3 n3 k3, .slice A4 n4 k4] 0 _).trans A6.out.2.1
 have f3 := below_setAll (Nat.le_refl _) [.int .i64 vk, .int .i64 vn, .string vs, .slice A3 n3 k3, .slice A4 n4 k4] 0 _ (B4.out.alloc B4.out.size (.cells #[.int .i64 vk, .int .i64 vn, .string vs, .slice A3 n3 k3, .slice A4 n4 k4] 35))
 refine leavesV rfl (b4 := w.heap.size) (b5 := w.heap.size + 1) (u := .int .i64 0) ((Below.heap_setCell _ _ _ _ (Nat.ne_of_lt (Nat.lt_succ_self _))).trans f1) (heap_setCell_same _ _ 0 _ _ _ f2) rfl rfl ⟨_, rfl, whole_tree (w := w) (xs := [.int .i64 vk, .int .i64 vn, .string vs, .slice A3 n3 k3, .slice A4 n4 k4]) (o := .cells #[.int .i64 vk, .int .i64 vn, .string vs, .slice A3 n3 k3, .slice A4 n4 k4] 35) (v := .int .i64 0) TT.out (by have h8 := D3.out.2.2.2.1; have h9 := D3.out.2.2.2.2; omega), f3.setCell (Nat.le_succ _) _⟩
set_option maxRecDepth 100000 in
set_option maxHeartbeats 4000000 in
theorem wholeV_err (bx : Nat) (s : ByteArray) (w : World) (hs : s.size ≤ 9000) (h3 : Laid3 w) (ts : List (Int × List UInt8)) (x : Int) (hx : x ≠ 0) (hr : readS s.data.toList = (ts, x)) : Calls Tryz.prog 47 #[.string s, .func (.func 48) #[] #[.pointer (some ⟨bx, 0, none⟩)]] w fun e w' => e = .returned (.tuple #[.agg #[.int .i64 0, .int .i64 0, .string ⟨#[]⟩, .slice none 0 0, .slice none 0 0], .int .i64 x]) ∧ Below w.heap.size w w' := by
 have HR := fun wx (hb : Below w.heap.size w wx) => Hd (by have := read_any s wx hs (h3.below hb); rw [hr] at this; exact this)
 have B0 := Hd (two_below' w (.cells #[.int .i64 0, .int .i64 0, .string ⟨#[]⟩, .slice none 0 0, .slice none 0 0] 35) (.cells #[.int .i64 0] 27))
 obtain ⟨y0, y1⟩ := two_heap w (.cells #[.int .i64 0, .int .i64 0, .string ⟨#[]⟩, .slice none 0 0, .slice none 0 0] 35) (.cells #[.int .i64 0] 27)
 have Y := Hd (And.intro y0 y1)
 have hsz : Hid (((w.alloc (.cells #[.int .i64 0, .int .i64 0, .string ⟨#[]⟩, .slice none 0 0, .slice none 0 0] 35)).alloc (.cells #[.int .i64 0] 27)).heap.size = w.heap.size + 2) := Hd (by simp)
 have hx' : (x != 0) = true := by simpa using hx
 clear hr y0 y1 hx
 go_enter_defers Tryz.func47, Tryz.ntmps47
 go_wp2_with fail
 refine (HR _ B0.out).out.mono ?_
 rintro e w2 ⟨A, cap, rfl, hown, hb2⟩
 have z4 := (hb2.block w.heap.size (by have := hsz.out; omega)).trans Y.out.1
 have z5 := (hb2.block (w.heap.size + 1) (by have := hsz.out; omega)).trans Y.out.2
 obtain ⟨k0q, k1q, k2q, k3q, k4q, kz⟩ := gfv_cells z4
 have kf0 := kz 0
 have kf1 := kz 1
 have kf2 := kz 2
 have kf3 := kz 3
 have kf4 := kz 4
 clear kz
 obtain ⟨e0, e1⟩ := one_box z5
 have Z := Hd (And.intro z4 z5)
 have B2 := Hd (B0.out.trans (hb2.mono (by have := hsz.out; omega)))
 clear hb2 hown z4 z5
 go_wp2_with fail
 have D := Hd (show (w2.setCell ⟨w.heap.size + 1, 0, none⟩ (.int .i64 x)).heap[w.heap.size]? = some (.cells #[.int .i64 0, .int .i64 0, .string ⟨#[]⟩, .slice none 0 0, .slice none 0 0] 35 (0, 0)) ∧ (w2.setCell ⟨w.heap.size + 1, 0, none⟩ (.int .i64 x)).heap[w.heap.size + 1]? = some (.cells #[.int .i64 x] 27 (0, 0)) from ⟨set_other' Z.out.1 (by omega), heap_setCell_same _ _ 0 _ _ _ Z.out.2⟩)
 clear k0q kf0 k1q kf1 k2q kf2 k3q kf3 k4q kf4 e0 e1
 have BD := Hd (B2.out.setCell (p := ⟨w.heap.size + 1, 0, none⟩) (Nat.le_succ _) (.int .i64 x))
 obtain ⟨k0q, k1q, k2q, k3q, k4q, kz⟩ := gfv_cells D.out.1
 have kf0 := kz 0
 have kf1 := kz 1
 have kf2 := kz 2
 have kf3 := kz 3
 have kf4 := kz 4
 clear kz
 obtain ⟨e0, e1⟩ := one_box D.out.2
 generalize (w2.setCell ⟨w.heap.size + 1, 0, none⟩ (.int .i64 x)) = w3 at *
 refine wp_region_held_drew (S := fun _ => True) (by kernel_rfl) trivial (fun _ => ?_)
 refine wpAnyH_ready (rs := [0, 1]) (by kernel_rfl) (by simp) ?_
 refine AllReadyH.cons rfl (fun K hK => ?_) ?_
 · skip
   go_simp
   refine hK.out _ _ trivial (fun _ => ?_)
   clear hK K
   try simp only [Act.put, stT, stZ, stS]
   refine wpAnyH_ready (rs := [1, 2]) (by kernel_rfl) (by simp) ?_
   refine AllReadyH.cons rfl (fun K hK => ?_) ?_
   · skip
     go_simp
     refine hK.out _ _ trivial (fun _ => ?_)
     clear hK K
     try simp only [Act.put, stT, stZ, stS]
     refine wpAnyH_ready (rs := [2]) (by kernel_rfl) (by simp) ?_
     refine AllReadyH.cons rfl (fun K hK => ?_) AllReadyH.nil
     go_simp
     refine hK.out _ _ trivial (fun _ => ?_)
     clear hK K
     try simp only [Act.put, stT, stZ, stS]
     refine wpAnyH_ready (rs := [3]) (by kernel_rfl) (by simp) ?_
     refine AllReadyH.cons rfl (fun K hK => ?_) AllReadyH.nil
     go_simp
     refine hK.out _ _ trivial (fun _ => ?_)
     clear hK K
     try simp only [Act.put, stT, stZ, stS]
     refine wpAnyH_done (by kernel_rfl) ?_ _
     go_wp2_with fail
     simp only [bodyPostD]
     have f1 := setAll_row (b := w.heap.size) (t := 35) (ys := [.int .i64 0, .int .i64 0, .string ⟨#[]⟩, .slice none 0 0, .slice none 0 0]) (xs := [.int .i64 0, .int .i64 0, .string ⟨#[]⟩, .slice none 0 0, .slice none 0 0]) rfl D.out.1
     have f2 := (setAll_other (b := w.heap.size) (k := w.heap.size + 1) (by omega) [.int .i64 0, .int .i64 0, .string ⟨#[]⟩, .slice none 0 0, .slice none 0 0] 0 _).trans D.out.2
     have f3 := (below_setAll (Nat.le_refl _) [.int .i64 0, .int .i64 0, .string ⟨#[]⟩, .slice none 0 0, .slice none 0 0] 0 _ BD.out).setCell (p := ⟨w.heap.size + 1, 0, none⟩) (Nat.le_succ _) (.int .i64 x)
     have f4 := (Below.heap_setCell (setAll w3 w.heap.size 0 [.int .i64 0, .int .i64 0, .string ⟨#[]⟩, .slice none 0 0, .slice none 0 0]) ⟨w.heap.size + 1, 0, none⟩ (.int .i64 x) w.heap.size (Nat.ne_of_lt (Nat.lt_succ_self _))).trans f1
     have f5 := heap_setCell_same (setAll w3 w.heap.size 0 [.int .i64 0, .int .i64 0, .string ⟨#[]⟩, .slice none 0 0, .slice none 0 0]) (w.heap.size + 1) 0 _ _ (.int .i64 x) f2
     change Leaves _ _ _ _ _ _ (World.drew ((setAll w3 w.heap.size 0 [.int .i64 0, .int .i64 0, .string ⟨#[]⟩, .slice none 0 0, .slice none 0 0]).setCell ⟨w.heap.size + 1, 0, none⟩ (.int .i64 x)))
     generalize (setAll w3 w.heap.size 0 [.int .i64 0, .int .i64 0, .string ⟨#[]⟩, .slice none 0 0, .slice none 0 0]).setCell ⟨w.heap.size + 1, 0, none⟩ (.int .i64 x) = W9 at f3 f4 f5 ⊢
     exact leavesV rfl (b4 := w.heap.size) (b5 := w.heap.size + 1) (u := .int .i64 x) (show W9.heap[w.heap.size]? = _ from f4) (show W9.heap[w.heap.size + 1]? = _ from f5) rfl rfl ⟨rfl, Below.drew f3⟩
   refine AllReadyH.cons rfl (fun K hK => ?_) AllReadyH.nil
   go_simp
   refine hK.out _ _ trivial (fun _ => ?_)
   clear hK K
   try simp only [Act.put, stT, stZ, stS]
   refine wpAnyH_ready (rs := [1]) (by kernel_rfl) (by simp) ?_
   refine AllReadyH.cons rfl (fun K hK => ?_) AllReadyH.nil
   go_simp
   refine hK.out _ _ trivial (fun _ => ?_)
   clear hK K
   try simp only [Act.put, stT, stZ, stS]
   refine wpAnyH_ready (rs := [3]) (by kernel_rfl) (by simp) ?_
   refine AllReadyH.cons rfl (fun K hK => ?_) AllReadyH.nil
   go_simp
   refine hK.out _ _ trivial (fun _ => ?_)
   clear hK K
   try simp only [Act.put, stT, stZ, stS]
   refine wpAnyH_done (by kernel_rfl) ?_ _
   go_wp2_with fail
   simp only [bodyPostD]
   have f1 := setAll_row (b := w.heap.size) (t := 35) (ys := [.int .i64 0, .int .i64 0, .string ⟨#[]⟩, .slice none 0 0, .slice none 0 0]) (xs := [.int .i64 0, .int .i64 0, .string ⟨#[]⟩, .slice none 0 0, .slice none 0 0]) rfl D.out.1
   have f2 := (setAll_other (b := w.heap.size) (k := w.heap.size + 1) (by omega) [.int .i64 0, .int .i64 0, .string ⟨#[]⟩, .slice none 0 0, .slice none 0 0] 0 _).trans D.out.2
   have f3 := (below_setAll (Nat.le_refl _) [.int .i64 0, .int .i64 0, .string ⟨#[]⟩, .slice none 0 0, .slice none 0 0] 0 _ BD.out).setCell (p := ⟨w.heap.size + 1, 0, none⟩) (Nat.le_succ _) (.int .i64 x)
   have f4 := (Below.heap_setCell (setAll w3 w.heap.size 0 [.int .i64 0, .int .i64 0, .string ⟨#[]⟩, .slice none 0 0, .slice none 0 0]) ⟨w.heap.size + 1, 0, none⟩ (.int .i64 x) w.heap.size (Nat.ne_of_lt (Nat.lt_succ_self _))).trans f1
   have f5 := heap_setCell_same (setAll w3 w.heap.size 0 [.int .i64 0, .int .i64 0, .string ⟨#[]⟩, .slice none 0 0, .slice none 0 0]) (w.heap.size + 1) 0 _ _ (.int .i64 x) f2
   change Leaves _ _ _ _ _ _ (World.drew ((setAll w3 w.heap.size 0 [.int .i64 0, .int .i64 0, .string ⟨#[]⟩, .slice none 0 0, .slice none 0 0]).setCell ⟨w.heap.size + 1, 0, none⟩ (.int .i64 x)))
   generalize (setAll w3 w.heap.size 0 [.int .i64 0, .int .i64 0, .string ⟨#[]⟩, .slice none 0 0, .slice none 0 0]).setCell ⟨w.heap.size + 1, 0, none⟩ (.int .i64 x) = W9 at f3 f4 f5 ⊢
   exact leavesV rfl (b4 := w.heap.size) (b5 := w.heap.size + 1) (u := .int .i64 x) (show W9.heap[w.heap.size]? = _ from f4) (show W9.heap[w.heap.size + 1]? = _ from f5) rfl rfl ⟨rfl, Below.drew f3⟩
 refine AllReadyH.cons rfl (fun K hK => ?_) AllReadyH.nil
 go_simp
 refine hK.out _ _ trivial (fun _ => ?_)
 clear hK K
 try simp only [Act.put, stT, stZ, stS]
 refine wpAnyH_ready (rs := [0]) (by kernel_rfl) (by simp) ?_
 refine AllReadyH.cons rfl (fun K hK => ?_) AllReadyH.nil
 go_simp
 refine hK.out _ _ trivial (fun _ => ?_)
 clear hK K
 try simp only [Act.put, stT, stZ, stS]
 refine wpAnyH_ready (rs := [2]) (by kernel_rfl) (by simp) ?_
 refine AllReadyH.cons rfl (fun K hK => ?_) AllReadyH.nil
 go_simp
 refine hK.out _ _ trivial (fun _ => ?_)
 clear hK K
 try simp only [Act.put, stT, stZ, stS]
 refine wpAnyH_ready (rs := [3]) (by kernel_rfl) (by simp) ?_
 refine AllReadyH.cons rfl (fun K hK => ?_) AllReadyH.nil
 go_simp
 refine hK.out _ _ trivial (fun _ => ?_)
 clear hK K
 try simp only [Act.put, stT, stZ, stS]
 refine wpAnyH_done (by kernel_rfl) ?_ _
 go_wp2_with fail
 simp only [bodyPostD]
 have f1 := setAll_row (b := w.heap.size) (t := 35) (ys := [.int .i64 0, .int .i64 0, .string ⟨#[]⟩, .slice none 0 0, .slice none 0 0]) (xs := [.int .i64 0, .int .i64 0, .string ⟨#[]⟩, .slice none 0 0, .slice none 0 0]) rfl D.out.1
 have f2 := (setAll_other (b := w.heap.size) (k := w.heap.size + 1) (by omega) [.int .i64 0, .int .i64 0, .string ⟨#[]⟩, .slice none 0 0, .slice none 0 0] 0 _).trans D.out.2
 have f3 := (below_setAll (Nat.le_refl _) [.int .i64 0, .int .i64 0, .string ⟨#[]⟩, .slice none 0 0, .slice none 0 0] 0 _ BD.out).setCell (p := ⟨w.heap.size + 1, 0, none⟩) (Nat.le_succ _) (.int .i64 x)
 have f4 := (Below.heap_setCell (setAll w3 w.heap.size 0 [.int .i64 0, .int .i64 0, .string ⟨#[]⟩, .slice none 0 0, .slice none 0 0]) ⟨w.heap.size + 1, 0, none⟩ (.int .i64 x) w.heap.size (Nat.ne_of_lt (Nat.lt_succ_self _))).trans f1
 have f5 := heap_setCell_same (setAll w3 w.heap.size 0 [.int .i64 0, .int .i64 0, .string ⟨#[]⟩, .slice none 0 0, .slice none 0 0]) (w.heap.size + 1) 0 _ _ (.int .i64 x) f2
 change Leaves _ _ _ _ _ _ (World.drew ((setAll w3 w.heap.size 0 [.int .i64 0, .int .i64 0, .string ⟨#[]⟩, .slice none 0 0, .slice none 0 0]).setCell ⟨w.heap.size + 1, 0, none⟩ (.int .i64 x)))
 generalize (setAll w3 w.heap.size 0 [.int .i64 0, .int .i64 0, .string ⟨#[]⟩, .slice none 0 0, .slice none 0 0]).setCell ⟨w.heap.size + 1, 0, none⟩ (.int .i64 x) = W9 at f3 f4 f5 ⊢
 exact leavesV rfl (b4 := w.heap.size) (b5 := w.heap.size + 1) (u := .int .i64 x) (show W9.heap[w.heap.size]? = _ from f4) (show W9.heap[w.heap.size + 1]? = _ from f5) rfl rfl ⟨rfl, Below.drew f3⟩
def Bad (x : Int) : Prop := x = 2 ∨ x = 4
def Er {α : Type} (p : Rdr α) : Prop := ∀ ts x, p ts = .error x → Bad x
theorem er_two {α : Type} : Er (errR 2 : Rdr α) := fun _ _ h => .inl (Except.error.inj h).symm
theorem er_four {α : Type} : Er (errR 4 : Rdr α) := fun _ _ h => .inr (Except.error.inj h).symm
theorem er_ret {α : Type} (a : α) : Er (retR a) := fun _ _ h => by cases h
theorem er_bind {α β : Type} {p : Rdr α} {q : α → Rdr β} (hp : Er p) (hq : ∀ a, Er (q a)) : Er (bindR p q) := fun ts x h => by
 unfold bindR at h
 cases hz : p ts with
 | error y => rw [hz] at h; have := Except.error.inj h; subst this; exact hp _ _ hz
 | ok z => obtain ⟨a, r⟩ := z; rw [hz] at h; exact hq a _ _ h
theorem er_if {α : Type} {k : Int} {s : ByteArray} {p q : Rdr α} (hp : Er p) (hq : Er q) : Er (ifR k s p q) := fun ts x h => by
 unfold ifR at h
 split at h
 · exact hp _ _ h
 · exact hq _ _ h
theorem er_see {α : Type} {b : List Tok → Bool} {p q : Rdr α} (hp : Er p) (hq : Er q) : Er (seeR b p q) := fun ts x h => by
 unfold seeR at h
 split at h
 · exact hp _ _ h
 · exact hq _ _ h
theorem er_nm {α : Type} {p : ByteArray → Rdr α} {q : Rdr α} (hp : ∀ n, Er (p n)) (hq : Er q) : Er (nmR p q) := fun ts x h => by
 unfold nmR at h
 cases hz : nameR ts with
 | none => rw [hz] at h; exact hq _ _ h
 | some z => obtain ⟨n, r⟩ := z; rw [hz] at h; exact hp n _ _ h
theorem er_cond {α : Type} {P : Prop} [Decidable P] {p q : Rdr α} (hp : Er p) (hq : Er q) : Er (if P then p else q) := by split; exact hp; exact hq
theorem er_one : Er oneR := fun ts x h => by
 cases ts with
 | nil => exact .inl (Except.error.inj h).symm
 | cons t r =>
   unfold oneR at h
   simp only at h
   cases hs : singleR t with
   | none => rw [hs] at h; exact .inl (Except.error.inj h).symm
   | some q => rw [hs] at h; cases h
def ErN {α : Type} (n : Nat) (p : Rdr α) : Prop := ∀ ts x, ts.length ≤ n → p ts = .error x → Bad x
theorem ern_if {α : Type} {n : Nat} {k : Int} {s : ByteArray} {p q : Rdr α} (hp : ∀ m, m < n → ErN m p) (hq : ErN n q) : ErN n (ifR k s p q) := fun ts x hl h => by
 unfold ifR at h
 split at h
 · rename_i ha
   exact hp ts.tail.length (by have := (at_sfx ha).2; omega) _ _ (Nat.le_refl _) h
 · exact hq _ _ hl h
theorem ern_bind {α β : Type} {n : Nat} {p : Rdr α} {q : α → Rdr β} (sp : Str p) (hp : ErN n p) (hq : ∀ a m, m < n → ErN m (q a)) : ErN n (bindR p q) := fun ts x hl h => by
 unfold bindR at h
 cases hz : p ts with
 | error y => rw [hz] at h; have := Except.error.inj h; subst this; exact hp _ _ hl hz
 | ok z =>
   obtain ⟨a, r⟩ := z
   rw [hz] at h
   exact hq a r.length (by have := (sp _ _ _ hz).2; omega) _ _ (Nat.le_refl _) h
theorem ern_bind0 {α β : Type} {n : Nat} {p : Rdr α} {q : α → Rdr β} (hp : ErN n p) (hq : ∀ a, Er (q a)) : ErN n (bindR p q) := fun ts x hl h => by
 unfold bindR at h
 cases hz : p ts with
 | error y => rw [hz] at h; have := Except.error.inj h; subst this; exact hp _ _ hl hz
 | ok z => obtain ⟨a, r⟩ := z; rw [hz] at h; exact hq a _ _ h
theorem ern_nm {α : Type} {n : Nat} {p : ByteArray → Rdr α} {q : Rdr α} (hp : ∀ s m, m < n → ErN m (p s)) (hq : ErN n q) : ErN n (nmR p q) := fun ts x hl h => by
 unfold nmR at h
 cases hz : nameR ts with
 | none => rw [hz] at h; exact hq _ _ hl h
 | some z => obtain ⟨s, r⟩ := z; rw [hz] at h; exact hp s r.length (by have := (name_sfx hz).2; omega) _ _ (Nat.le_refl _) h
theorem ern_of {α : Type} {n : Nat} {p : Rdr α} (h : Er p) : ErN n p := fun ts x _ e => h ts x e
theorem er_of {α : Type} {p : Rdr α} (h : ∀ n, ErN n p) : Er p := fun ts x e => h ts.length ts x (Nat.le_refl _) e
theorem ern_cond {α : Type} {n : Nat} {P : Prop} [Decidable P] {p q : Rdr α} (hp : ErN n p) (hq : ErN n q) : ErN n (if P then p else q) := by split; exact hp; exact hq
theorem er_read : ∀ n, (∀ fx d, ErN n (valD fx d)) ∧ (∀ fx d acc, ErN n (itemsD fx d acc)) ∧ (∀ fx d acc, ErN n (memsD fx d acc)) ∧ (∀ fx d, ErN n (memD fx d)) := by
 intro n
 induction n using Nat.strongRecOn with
 | ind n ih =>
   have hv : ∀ fx d, ErN n (valD fx d) := by
     intro fx d
     rw [valD_eq]
     refine ern_if (fun m hm => ern_cond (ern_of er_four) (ern_bind0 ((ih m hm).2.1 _ _ _) fun _ => er_ret _)) ?_
     refine ern_if (fun m hm => ern_cond (ern_of er_four) (ern_bind0 ((ih m hm).2.2.1 _ _ _) fun _ => er_ret _)) ?_
     exact ern_of (er_cond er_one (er_if (er_nm (fun _ => er_ret _) er_two) er_one))
   have hm : ∀ fx d, ErN n (memD fx d) := by
     intro fx d
     rw [memD_eq]
     exact ern_nm (fun _ k hk => ern_if (fun m hm => ern_bind0 ((ih m (by omega)).1 _ _) fun _ => er_ret _) (ern_of er_two)) (ern_of er_two)
   refine ⟨hv, fun fx d acc => ?_, fun fx d acc => ?_, hm⟩
   · rw [itemsD_eq]
     exact ern_if (fun _ _ => ern_of (er_ret _)) (ern_bind (str_val _ _) (hv _ _) fun _ m hm => (ih m hm).2.1 _ _ _)
   · rw [memsD_eq]
     exact ern_if (fun _ _ => ern_of (er_ret _)) (ern_bind (str_mem _ _) (hm _ _) fun _ m hm => (ih m hm).2.2.1 _ _ _)
theorem er_val (fx : Bool) (d : Nat) : Er (valD fx d) := er_of fun n => (er_read n).1 fx d
theorem er_mem (fx : Bool) (d : Nat) : Er (memD fx d) := er_of fun n => (er_read n).2.2.2 fx d
theorem ern_ser {α ρ : Type} {one : Rdr α} {add : ρ → α → ρ} {e : ByteArray} (H : Str one) : ∀ n, ErN n one → ∀ acc, ErN n (serD one add e acc) := by
 intro n
 induction n using Nat.strongRecOn with
 | ind n ih =>
   intro ho acc
   rw [serD_eq H]
   exact ern_bind H ho fun _ m hm => ern_if (fun _ _ => ern_of (er_ret _)) (ih m hm (fun ts x hl h => ho ts x (by omega) h) _)
theorem er_args (fx : Bool) (d : Nat) : Er (argsR fx d) := by
 rw [argsR_eq]; exact er_if (er_of fun n => ern_ser (str_mem _ _) n (ern_of (er_mem _ _)) _) (er_ret _)
theorem er_dirs (fx : Bool) (d : Nat) : Er (dirsR fx d) := by
 have : ∀ n acc, ErN n (dirsD fx d acc) := by
  intro n
  induction n using Nat.strongRecOn with
  | ind n ih =>
    intro acc
    rw [dirsD_eq]
    refine ern_if (fun m hm => ern_nm (fun _ k hk => ?_) (ern_of er_two)) (ern_of (er_ret _))
    intro ts x hl h
    unfold bindR at h
    cases hz : argsR fx d ts with
    | error y => rw [hz] at h; have := Except.error.inj h; subst this; exact er_args _ _ _ _ hz
    | ok z =>
      obtain ⟨a, r⟩ := z
      rw [hz] at h
      exact ih r.length (by have := (args_sfx hz).length_le; omega) _ _ _ (Nat.le_refl _) h
 exact er_of fun n => this n []
theorem er_typ : ∀ left, Er (typeR left)
 | 0 => by rw [typeR_eq0]; exact er_if er_four (er_nm (fun _ => er_if (er_ret _) (er_ret _)) er_two)
 | left + 1 => by
   rw [typeR_eq]
   exact er_if (er_bind (er_typ left) fun _ => er_if (er_if (er_ret _) (er_ret _)) er_two) (er_nm (fun _ => er_if (er_ret _) (er_ret _)) er_two)
theorem ern_inline {S : SelsF} {n : Nat} (hS : ErN n S) (d : Nat) (o : ByteArray) : ErN n (inlineR S d o) := by
 rw [inlineR_eq]
 intro ts x hl h
 unfold bindR at h
 cases hz : dirsR false d ts with
 | error y => rw [hz] at h; have := Except.error.inj h; subst this; exact er_dirs _ _ _ _ hz
 | ok z =>
   obtain ⟨a, r⟩ := z
   rw [hz] at h
   exact ern_bind0 (q := fun s => retR (SelT.mk 2 eB eB .nil a o s)) hS (fun _ => er_ret _) r x (by have := (dirs_sfx hz).length_le; omega) h
theorem ern_rest {S : SelsF} {n : Nat} (hS : ErN n S) (d : Nat) (al nm : ByteArray) : ErN n (restR S d al nm) := by
 rw [restR_eq]
 intro ts x hl h
 unfold bindR at h
 cases hz : argsR false d ts with
 | error y => rw [hz] at h; have := Except.error.inj h; subst this; exact er_args _ _ _ _ hz
 | ok z =>
   obtain ⟨g, r0⟩ := z
   rw [hz] at h
   simp only at h
   have h0 := (args_sfx hz).length_le
   cases hd : dirsR false d r0 with
   | error y => rw [hd] at h; have := Except.error.inj h; subst this; exact er_dirs _ _ _ _ hd
   | ok z =>
     obtain ⟨a, r⟩ := z
     rw [hd] at h
     have h1 := (dirs_sfx hd).length_le
     simp only at h
     unfold seeR at h
     split at h
     · exact ern_bind0 (q := fun s => retR (SelT.mk 0 al nm g a eB s)) hS (fun _ => er_ret _) r x (by omega) h
     · cases h
theorem ern_sel {S : SelsF} {n : Nat} (hS : ∀ m, m < n → ErN m S) (d : Nat) : ErN n (selOne S d) := by
 rw [selOne_eq]
 refine ern_if (fun m hm => ?_) ?_
 · rw [spreadR_eq]
   exact ern_if (fun k hk => ern_nm (fun _ j hj => ern_inline (hS j (by omega)) d _) (ern_of er_two)) (ern_nm (fun _ j _ => ern_of (er_bind (er_dirs _ _) fun _ => er_ret _)) (ern_inline (hS m hm) d _))
 · rw [fieldR_eq]
   exact ern_nm (fun _ k hk => ern_if (fun j hj => ern_nm (fun _ i hi => ern_rest (hS i (by omega)) _ _ _) (ern_of er_two)) (ern_rest (hS k hk) _ _ _)) (ern_of er_two)
theorem ern_sels : ∀ n d, ErN n (selsD d) := by
 intro n
 induction n using Nat.strongRecOn with
 | ind n ih =>
   intro d
   rw [selsD_eq]
   refine ern_if (fun m hm => ern_cond (ern_of er_four) (ern_ser (str_selD _) m ?_ _)) (ern_of er_two)
   rw [selD_eq]
   exact ern_sel (fun k hk => ih k (by omega) _) _
theorem er_sels (d : Nat) : Er (selsD d) := er_of fun n => ern_sels n d
theorem er_var (d : Nat) : Er (varR d) := by
 rw [varR_eq]
 exact er_if (er_nm (fun _ => er_if (er_bind (er_typ _) fun _ => er_if (er_bind (er_val _ _) fun _ => er_ret _) (er_ret _)) er_two) er_two) er_two
theorem er_vars (d : Nat) : Er (varsR d) := by
 rw [varsR_eq]; exact er_if (er_of fun n => ern_ser (str_var _) n (ern_of (er_var _)) _) (er_ret _)
theorem er_opRest (k : Int) (d : Nat) (nm : ByteArray) : Er (opRest k d nm) := by
 rw [opRest_eq]; exact er_bind (er_vars _) fun _ => er_bind (er_dirs _ _) fun _ => er_bind (er_sels _) fun _ => er_ret _
theorem er_op (k : Int) (d : Nat) : Er (opR k d) := by rw [opR_eq]; exact er_nm (fun _ => er_opRest _ _ _) (er_opRest _ _ _)
theorem er_frag (d : Nat) : Er (fragR d) := by
 rw [fragR_eq]
 exact er_see er_two (er_nm (fun _ => er_if (er_nm (fun _ => er_bind (er_dirs _ _) fun _ => er_bind (er_sels _) fun _ => er_ret _) er_two) er_two) er_two)
theorem er_oneD : Er oneD := er_see (er_bind (er_sels _) fun _ => er_ret _) (er_if (er_bind (er_op _ _) fun _ => er_ret _) (er_if (er_bind (er_op _ _) fun _ => er_ret _) (er_if (er_bind (er_frag _) fun _ => er_ret _) er_two)))
theorem er_defs : ∀ f ts x, defsF f ts = .error x → Bad x
 | 0, _, _, h => .inl (Except.error.inj h).symm
 | f + 1, ts, x, h => by
   rw [defsF] at h
   cases ho : oneD ts with
   | error y => rw [ho] at h; have := Except.error.inj h; subst this; exact er_oneD _ _ ho
   | ok q =>
     obtain ⟨a, r⟩ := q
     rw [ho] at h
     simp only at h
     split at h
     · cases h
     · cases hd : defsF f r with
       | error y => rw [hd] at h; have := Except.error.inj h; subst this; exact er_defs f r _ hd
       | ok l => rw [hd] at h; cases h
theorem doc_bad {ts : List Tok} {x : Int} (h : docR ts = .error x) : Bad x := by
 rw [docR_eq] at h
 cases hd : defsD ts with
 | error y => rw [hd] at h; have := Except.error.inj h; subst this; exact er_defs _ _ _ hd
 | ok l => rw [hd] at h; cases h
theorem doc_badr (ts : List Tok) (x : Int) (h : docRr ts = .error x) : Bad x := by
 unfold docRr at h
 cases hd : docR ts with
 | error y => rw [hd] at h; have := Except.error.inj h; subst this; exact doc_bad hd
 | ok D => rw [hd] at h; cases h
theorem val_bad {fx : Bool} (ts : List Tok) (x : Int) (h : valD fx 0 ts = .error x) : Bad x := er_val fx 0 ts x h
def Res {α : Type} (enc : α → TrS) (zero : List Value) (w w' : World) (R : Except Int α) (x : Int) (cs : List Value) : Prop :=
 match R with
 | .ok a => x = 0 ∧ TS w' (Fresh w w') (enc a) cs
 | .error y => x = y ∧ y ≠ 0 ∧ cs = zero
theorem res_up {α : Type} {enc : α → TrS} {zero cs : List Value} {w0 w w' W : World} {R : Except Int α} {x : Int} (h : Res enc zero w w' R x cs) (hw : w0.heap.size ≤ w.heap.size) (hs : w'.heap.size ≤ W.heap.size) (hk : ∀ k, w.heap.size ≤ k → k < w'.heap.size → W.heap[k]? = w'.heap[k]?) : Res enc zero w0 W R x cs := by
 cases R with
 | error y => exact h
 | ok a => exact ⟨h.1, TS.keep (fun k hk' => ⟨⟨Nat.le_trans hw hk'.1, Nat.lt_of_lt_of_le hk'.2 hs⟩, hk k hk'.1 hk'.2⟩) _ _ h.2⟩
theorem ret_st2 {R : Ending → World → Prop} {fn : Func} {a : Act} {W : World} {cs : List Value} {ty : TypeId} {p q b : Nat} {v : Value} {ds : TypeDesc} (hf : fn.results = #[.cell p ty, .tmp q]) (h2 : a.tmps.getD p undef = .pointer (some ⟨b, 0, none⟩)) (h3 : a.tmps.getD q undef = v) (hd : a.defers = [])
  (hc : W.heap[b]? = some (.cells cs.toArray ty (0, 0))) (hu : Tryz.prog.underlying ty = some ds) (hs : ∃ fs, ds = .struct fs) (hi : (Tryz.prog.info? ty).map (·.size) = some cs.length) (hR : R (.returned (.tuple #[.agg cs.toArray, v])) W) : bodyPost Tryz.prog fn R .ret a W := by
 obtain ⟨fs, rfl⟩ := hs
 have hl : (loadVar ty ⟨b, 0, none⟩).run Tryz.prog W = .ok (.agg cs.toArray) W := run_loadVar_row W b ty ty cs.toArray (0, 0) _ hc hu rfl (by rw [hi]; simp)
 refine bodyPost_ret ?_ hd hR
 have h2' : a.tmps[p]?.getD undef = .pointer (some ⟨b, 0, none⟩) := by rw [← h2]; simp
 have h3' : a.tmps[q]?.getD undef = v := by rw [← h3]; simp
 simp [results, hf, h2', h3', asAddr, hl]
set_option maxRecDepth 100000 in
theorem val1_any (fx : Bool) (bx d : Nat) (ts : List Tok) (r : Nat) (w : World) (hG : GoodD ts) (hd : d ≤ 16) (hR : Rd w r ts d) (hK : KRd r w) (hX : w.heap[bx]? = some (.cells #[.bool fx] 4 (0, 0))) : Calls Tryz.prog 48 #[.pointer (some ⟨r, 0, none⟩), .pointer (some ⟨bx, 0, none⟩)] w (Post r d w (layS encV) (valD fx d ts)) := by
 suffices H : ∀ Q : Ending → World → Prop, (∀ e w', Post r d w (layS encV) (valD fx d ts) e w' → Q e w') → Calls Tryz.prog 48 #[.pointer (some ⟨r, 0, none⟩), .pointer (some ⟨bx, 0, none⟩)] w Q from H _ (fun _ _ h => h)
 intro Q hQ
 have HQ := Hd hQ
 have K0 := Hd (S0.start hR hK #[.int .i64 0, .int .i64 0, .string ⟨#[]⟩, .slice none 0 0, .slice none 0 0] 35)
 obtain ⟨q0, _⟩ := one_box ((blw w (.cells #[.int .i64 0, .int .i64 0, .string ⟨#[]⟩, .slice none 0 0, .slice none 0 0] 35)).block bx (Array.getElem?_eq_some_iff.1 hX).1 |>.trans hX)
 have HG := Hd hG
 clear hQ hR hK hX hG
 go_enter Tryz.func48, Tryz.ntmps48
 go_wp2_with fail
 refine (val_post fx d ts r _ HG.out hd K0.out.rd K0.out.k).mono ?_
 intro e w1 h
 cases hv : valD fx d ts with
 | error x =>
   rw [hv] at h
   obtain ⟨rfl, m⟩ := of_err h
   exact ⟨rfl, HQ.out _ _ (per hv (K0.out.mv.trans m))⟩
 | ok p =>
   obtain ⟨a, ts1⟩ := p
   rw [hv] at h
   obtain ⟨⟨v, rfl, hl⟩, r1, m1⟩ := of_ok h
   obtain ⟨vk, vn, vs, A3, n3, k3, A4, n4, k4, rfl, hts⟩ := val_open hl
   have K1 := Hd (K0.out.next r1 m1)
   have T1 := Hd (OvS.of hts K0.out.lt)
   obtain ⟨y0, y1, y2, y3, y4, yz⟩ := gfv_cells K1.out.res
   have z0 := yz 0
   have z1 := yz 1
   have z2 := yz 2
   have z3 := yz 3
   have z4 := yz 4
   have HV := Hd hv
   clear r1 m1 hl hts h hv q0 yz
   go_wp2_with fail
   obtain ⟨f1, f2, f3⟩ := S0.fin (ys := [.int .i64 0, .int .i64 0, .string ⟨#[]⟩, .slice none 0 0, .slice none 0 0]) K1.out [.int .i64 vk, .int .i64 vn, .string vs, .slice A3 n3 k3, .slice A4 n4 k4] rfl
   have FT := T1.out.fin (w := w) (Nat.le_refl _) [.int .i64 vk, .int .i64 vn, .string vs, .slice A3 n3 k3, .slice A4 n4 k4]
   have FP := HQ.out _ _ (post_ok HV.out ⟨_, rfl, FT⟩ f2 f3)
   exact ret_st rfl rfl rfl f1 Tryz.underlying35 ⟨_, rfl⟩ (by kernel_rfl) FP
theorem wholeD_any (s : ByteArray) (w : World) (hs : s.size ≤ 9000) (h3 : Laid3 w) (h5 : Laid5 w) : Calls Tryz.prog 41 #[.string s, .func (.func 42) #[] #[]] w fun e w' => ∃ (A0 : Option Addr) (n0 k0 : Nat) (A1 : Option Addr) (n1 k1 : Nat) (x : Int), e = .returned (.tuple #[.agg #[.slice A0 n0 k0, .slice A1 n1 k1], .int .i64 x]) ∧ Res encDoc [.slice none 0 0, .slice none 0 0] w w' (wholeA docRr s.data.toList) x [.slice A0 n0 k0, .slice A1 n1 k1] ∧ Below w.heap.size w w' := by
 have hGD := readS_goodD hs
 have hl := readS_len hs
 unfold wholeA
 obtain ⟨⟨ts, x⟩, hr⟩ : ∃ p, readS s.data.toList = p := ⟨_, rfl⟩
 rw [hr] at hGD hl ⊢
 replace hl : ts.length ≤ 200000 := by have : ts.length ≤ 9001 := hl; omega
 by_cases hx : x = 0
 · subst hx
   rw [if_neg (by simp)]
   cases ht : docRr (tokB ts) with
   | error y =>
     refine (wholeD_no s w hs h3 h5 ts hl _ (fun g wx hb hg hx hk => doc_any (tokB ts) g wx hGD hx hk) hr y ht).mono ?_
     rintro e w' ⟨rfl, hb⟩
     exact ⟨none, 0, 0, none, 0, 0, y, rfl, ⟨rfl, by rcases doc_badr _ _ ht with e | e <;> omega, rfl⟩, hb⟩
   | ok p =>
     obtain ⟨a, r⟩ := p
     cases r with
     | nil =>
       refine (wholeD_yes s w hs h3 h5 ts hl _ (fun g wx hb hg hx hk => doc_any (tokB ts) g wx hGD hx hk) hr a ht).mono ?_
       rintro e w' ⟨cs, rfl, hts, hb⟩
       obtain ⟨A0, n0, k0, A1, n1, k1, e0, hts⟩ := doc_open (show layS encDoc w' (Fresh w w') a (.agg cs.toArray) from ⟨cs, rfl, hts⟩)
       injection e0 with e0
       have e0 : cs = [.slice A0 n0 k0, .slice A1 n1 k1] := by have := congrArg Array.toList e0; simpa using this
       subst e0
       exact ⟨_, _, _, _, _, _, 0, rfl, show Res encDoc _ w w' (if ([] : List Tok) = [] then .ok a else .error 2) _ _ by rw [if_pos rfl]; exact ⟨rfl, hts⟩, hb⟩
     | cons t ts2 =>
       refine (wholeD_more s w hs h3 h5 ts hl _ (fun g wx hb hg hx hk => doc_any (tokB ts) g wx hGD hx hk) hr a t ts2 ht).mono ?_
       rintro e w' ⟨rfl, hb⟩
       exact ⟨none, 0, 0, none, 0, 0, 2, rfl, show Res encDoc _ w w' (if t :: ts2 = [] then .ok a else .error 2) _ _ by rw [if_neg (by simp)]; exact ⟨rfl, by omega, rfl⟩, hb⟩
 · rw [if_pos hx]
   refine (wholeD_err s w hs h3 ts x hx hr).mono ?_
   rintro e w' ⟨rfl, hb⟩
   exact ⟨none, 0, 0, none, 0, 0, x, rfl, ⟨rfl, hx, rfl⟩, hb⟩
set_option maxRecDepth 100000 in
set_option maxHeartbeats 4000000 in
theorem pread_any (s : ByteArray) (w : World) (hs : s.size ≤ 9000) (h3 : Laid3 w) (h5 : Laid5 w) : Calls Tryz.prog 14 #[.string s] w fun e w' => ∃ (A0 : Option Addr) (n0 k0 : Nat) (A1 : Option Addr) (n1 k1 : Nat) (x : Int), e = .returned (.tuple #[.agg #[.slice A0 n0 k0, .slice A1 n1 k1], .int .i64 x]) ∧ Res encDoc [.slice none 0 0, .slice none 0 0] w w' (wholeA docRr s.data.toList) x [.slice A0 n0 k0, .slice A1 n1 k1] ∧ Below w.heap.size w w' := by
 suffices H : ∀ Q : Ending → World → Prop, (∀ e w', (∃ (A0 : Option Addr) (n0 k0 : Nat) (A1 : Option Addr) (n1 k1 : Nat) (x : Int), e = .returned (.tuple #[.agg #[.slice A0 n0 k0, .slice A1 n1 k1], .int .i64 x]) ∧ Res encDoc [.slice none 0 0, .slice none 0 0] w w' (wholeA docRr s.data.toList) x [.slice A0 n0 k0, .slice A1 n1 k1] ∧ Below w.heap.size w w') → Q e w') → Calls Tryz.prog 14 #[.string s] w Q from H _ (fun _ _ h => h)
 intro Q hQ
 have HQ := Hd hQ
 have hmf : ∀ (fn : Fn) (first cap : Array Value) (w : World), (Instr.makeFunc fn first cap).run Tryz.prog w = .ok (.func fn first cap) w := fun _ _ _ _ => rfl
 have B0 := Hd (blw w (.cells #[.slice none 0 0, .slice none 0 0] 26))
 have Y := Hd (heap_alloc_last w (.cells #[.slice none 0 0, .slice none 0 0] 26))
 have hSZ := Hd (show (w.alloc (.cells #[.slice none 0 0, .slice none 0 0] 26)).heap.size = w.heap.size + 1 by simp)
 clear hQ
 go_enter Tryz.func14, Tryz.ntmps14
 go_wp2_with fail
 refine (wholeD_any s _ hs (h3.below B0.out) (h5.below B0.out)).mono ?_
 rintro e w2 ⟨A0, n0, k0, A1, n1, k1, x, rfl, hres, hb2⟩
 have hsz := B0.out.size
 have Z := Hd ((hb2.block (w.heap.size) (by simp)).trans Y.out)
 have B2 := Hd (B0.out.trans (hb2.mono hsz))
 have RS := Hd hres
 have hs2 := hb2.size
 obtain ⟨j0, j1, kz⟩ := ptc Z.out
 have kf0 := kz 0
 have kf1 := kz 1
 clear kz hres
 go_wp2_with fail
 have f1 := setAll_row (b := w.heap.size) (t := 26) (ys := [.slice none 0 0, .slice none 0 0]) (xs := [.slice A0 n0 k0, .slice A1 n1 k1]) rfl Z.out
 have f3 := below_setAll (B := w.heap.size) (b := w.heap.size) (by omega) [.slice A0 n0 k0, .slice A1 n1 k1] 0 _ B2.out
 have hz : (setAll w2 (w.heap.size) 0 [.slice A0 n0 k0, .slice A1 n1 k1]).heap.size = w2.heap.size := setAll_size _ _ _ _
 have hko : ∀ k, (w.heap.size) + 1 ≤ k → k < w2.heap.size → (setAll w2 (w.heap.size) 0 [.slice A0 n0 k0, .slice A1 n1 k1]).heap[k]? = w2.heap[k]? := fun k hk _ => setAll_other (by omega) _ _ _
 exact ret_st2 rfl rfl rfl rfl f1 Tryz.underlying26 ⟨_, rfl⟩ (by kernel_rfl) (HQ.out _ _ ⟨A0, n0, k0, A1, n1, k1, x, rfl, res_up RS.out hsz (Nat.le_of_eq hz.symm) (fun k hk hk2 => hko k (Nat.le_trans (Nat.le_of_eq hSZ.out.symm) hk) hk2), f3⟩)
theorem wholeV_any (s : ByteArray) (w : World) (fx : Bool) (bx : Nat) (hX : w.heap[bx]? = some (.cells #[.bool fx] 4 (0, 0))) (hs : s.size ≤ 9000) (h3 : Laid3 w) (h5 : Laid5 w) : Calls Tryz.prog 47 #[.string s, .func (.func 48) #[] #[.pointer (some ⟨bx, 0, none⟩)]] w fun e w' => ∃ (vk vn : Int) (vs : ByteArray) (A3 : Option Addr) (n3 k3 : Nat) (A4 : Option Addr) (n4 k4 : Nat) (x : Int), e = .returned (.tuple #[.agg #[.int .i64 vk, .int .i64 vn, .string vs, .slice A3 n3 k3, .slice A4 n4 k4], .int .i64 x]) ∧ Res encV [.int .i64 0, .int .i64 0, .string ⟨#[]⟩, .slice none 0 0, .slice none 0 0] w w' (wholeA (valD fx 0) s.data.toList) x [.int .i64 vk, .int .i64 vn, .string vs, .slice A3 n3 k3, .slice A4 n4 k4] ∧ Below w.heap.size w w' := by
 have hGD := readS_goodD hs
 have hl := readS_len hs
 unfold wholeA
 obtain ⟨⟨ts, x⟩, hr⟩ : ∃ p, readS s.data.toList = p := ⟨_, rfl⟩
 rw [hr] at hGD hl ⊢
 replace hl : ts.length ≤ 200000 := by have : ts.length ≤ 9001 := hl; omega
 by_cases hx : x = 0
 · subst hx
   rw [if_neg (by simp)]
   cases ht : (valD fx 0) (tokB ts) with
   | error y =>
     refine (wholeV_no bx s w hs h3 h5 ts hl _ (fun g wx hb hg hx hk => val1_any fx bx 0 (tokB ts) g wx hGD (Nat.zero_le _) hx hk ((hb.block bx (Array.getElem?_eq_some_iff.1 hX).1).trans hX)) hr y ht).mono ?_
     rintro e w' ⟨rfl, hb⟩
     exact ⟨0, 0, ⟨#[]⟩, none, 0, 0, none, 0, 0, y, rfl, ⟨rfl, by rcases val_bad _ _ ht with e | e <;> omega, rfl⟩, hb⟩
   | ok p =>
     obtain ⟨a, r⟩ := p
     cases r with
     | nil =>
       refine (wholeV_yes bx s w hs h3 h5 ts hl _ (fun g wx hb hg hx hk => val1_any fx bx 0 (tokB ts) g wx hGD (Nat.zero_le _) hx hk ((hb.block bx (Array.getElem?_eq_some_iff.1 hX).1).trans hX)) hr a ht).mono ?_
       rintro e w' ⟨cs, rfl, hts, hb⟩
       obtain ⟨vk, vn, vs, A3, n3, k3, A4, n4, k4, e0, hts⟩ := val_open (show layS encV w' (Fresh w w') a (.agg cs.toArray) from ⟨cs, rfl, hts⟩)
       injection e0 with e0
       have e0 : cs = [.int .i64 vk, .int .i64 vn, .string vs, .slice A3 n3 k3, .slice A4 n4 k4] := by have := congrArg Array.toList e0; simpa using this
       subst e0
       exact ⟨_, _, _, _, _, _, _, _, _, 0, rfl, show Res encV _ w w' (if ([] : List Tok) = [] then .ok a else .error 2) _ _ by rw [if_pos rfl]; exact ⟨rfl, hts⟩, hb⟩
     | cons t ts2 =>
       refine (wholeV_more bx s w hs h3 h5 ts hl _ (fun g wx hb hg hx hk => val1_any fx bx 0 (tokB ts) g wx hGD (Nat.zero_le _) hx hk ((hb.block bx (Array.getElem?_eq_some_iff.1 hX).1).trans hX)) hr a t ts2 ht).mono ?_
       rintro e w' ⟨rfl, hb⟩
       exact ⟨0, 0, ⟨#[]⟩, none, 0, 0, none, 0, 0, 2, rfl, show Res encV _ w w' (if t :: ts2 = [] then .ok a else .error 2) _ _ by rw [if_neg (by simp)]; exact ⟨rfl, by omega, rfl⟩, hb⟩
 · rw [if_pos hx]
   refine (wholeV_err bx s w hs h3 ts x hx hr).mono ?_
   rintro e w' ⟨rfl, hb⟩
   exact ⟨0, 0, ⟨#[]⟩, none, 0, 0, none, 0, 0, x, rfl, ⟨rfl, hx, rfl⟩, hb⟩
set_option maxRecDepth 100000 in
set_option maxHeartbeats 4000000 in
theorem pvalue_any (s : ByteArray) (fx : Bool) (w : World) (hs : s.size ≤ 9000) (h3 : Laid3 w) (h5 : Laid5 w) : Calls Tryz.prog 17 #[.string s, .bool fx] w fun e w' => ∃ (vk vn : Int) (vs : ByteArray) (A3 : Option Addr) (n3 k3 : Nat) (A4 : Option Addr) (n4 k4 : Nat) (x : Int), e = .returned (.tuple #[.agg #[.int .i64 vk, .int .i64 vn, .string vs, .slice A3 n3 k3, .slice A4 n4 k4], .int .i64 x]) ∧ Res encV [.int .i64 0, .int .i64 0, .string ⟨#[]⟩, .slice none 0 0, .slice none 0 0] w w' (wholeA (valD fx 0) s.data.toList) x [.int .i64 vk, .int .i64 vn, .string vs, .slice A3 n3 k3, .slice A4 n4 k4] ∧ Below w.heap.size w w' := by
 suffices H : ∀ Q : Ending → World → Prop, (∀ e w', (∃ (vk vn : Int) (vs : ByteArray) (A3 : Option Addr) (n3 k3 : Nat) (A4 : Option Addr) (n4 k4 : Nat) (x : Int), e = .returned (.tuple #[.agg #[.int .i64 vk, .int .i64 vn, .string vs, .slice A3 n3 k3, .slice A4 n4 k4], .int .i64 x]) ∧ Res encV [.int .i64 0, .int .i64 0, .string ⟨#[]⟩, .slice none 0 0, .slice none 0 0] w w' (wholeA (valD fx 0) s.data.toList) x [.int .i64 vk, .int .i64 vn, .string vs, .slice A3 n3 k3, .slice A4 n4 k4] ∧ Below w.heap.size w w') → Q e w') → Calls Tryz.prog 17 #[.string s, .bool fx] w Q from H _ (fun _ _ h => h)
 intro Q hQ
 have HQ := Hd hQ
 have hmf : ∀ (fn : Fn) (first cap : Array Value) (w : World), (Instr.makeFunc fn first cap).run Tryz.prog w = .ok (.func fn first cap) w := fun _ _ _ _ => rfl
 have B0 := Hd (two_below' w (.cells #[.bool fx] 4) (.cells #[.int .i64 0, .int .i64 0, .string ⟨#[]⟩, .slice none 0 0, .slice none 0 0] 35))
 have Y := Hd (two_heap w (.cells #[.bool fx] 4) (.cells #[.int .i64 0, .int .i64 0, .string ⟨#[]⟩, .slice none 0 0, .slice none 0 0] 35)).2
 have HB := Hd (two_heap w (.cells #[.bool fx] 4) (.cells #[.int .i64 0, .int .i64 0, .string ⟨#[]⟩, .slice none 0 0, .slice none 0 0] 35)).1
 have hSZ := Hd (show ((w.alloc (.cells #[.bool fx] 4)).alloc (.cells #[.int .i64 0, .int .i64 0, .string ⟨#[]⟩, .slice none 0 0, .slice none 0 0] 35)).heap.size = w.heap.size + 2 by simp)
 clear hQ
 go_enter Tryz.func17, Tryz.ntmps17
 go_wp2_with fail
 refine (wholeV_any s _ fx w.heap.size HB.out hs (h3.below B0.out) (h5.below B0.out)).mono ?_
 rintro e w2 ⟨vk, vn, vs, A3, n3, k3, A4, n4, k4, x, rfl, hres, hb2⟩
 have hsz := B0.out.size
 have Z := Hd ((hb2.block (w.heap.size + 1) (by simp)).trans Y.out)
 have B2 := Hd (B0.out.trans (hb2.mono hsz))
 have RS := Hd hres
 have hs2 := hb2.size
 obtain ⟨j0, j1, j2, j3, j4, kz⟩ := gfv_cells Z.out
 have kf0 := kz 0
 have kf1 := kz 1
 have kf2 := kz 2
 have kf3 := kz 3
 have kf4 := kz 4
 clear kz hres
 go_wp2_with fail
 have f1 := setAll_row (b := w.heap.size + 1) (t := 35) (ys := [.int .i64 0, .int .i64 0, .string ⟨#[]⟩, .slice none 0 0, .slice none 0 0]) (xs := [.int .i64 vk, .int .i64 vn, .string vs, .slice A3 n3 k3, .slice A4 n4 k4]) rfl Z.out
 have f3 := below_setAll (B := w.heap.size) (b := w.heap.size + 1) (by omega) [.int .i64 vk, .int .i64 vn, .string vs, .slice A3 n3 k3, .slice A4 n4 k4] 0 _ B2.out
 have hz : (setAll w2 (w.heap.size + 1) 0 [.int .i64 vk, .int .i64 vn, .string vs, .slice A3 n3 k3, .slice A4 n4 k4]).heap.size = w2.heap.size := setAll_size _ _ _ _
 have hko : ∀ k, (w.heap.size + 1) + 1 ≤ k → k < w2.heap.size → (setAll w2 (w.heap.size + 1) 0 [.int .i64 vk, .int .i64 vn, .string vs, .slice A3 n3 k3, .slice A4 n4 k4]).heap[k]? = w2.heap[k]? := fun k hk _ => setAll_other (by omega) _ _ _
 exact ret_st2 rfl rfl rfl rfl f1 Tryz.underlying35 ⟨_, rfl⟩ (by kernel_rfl) (HQ.out _ _ ⟨vk, vn, vs, A3, n3, k3, A4, n4, k4, x, rfl, res_up RS.out hsz (Nat.le_of_eq hz.symm) (fun k hk hk2 => hko k (Nat.le_trans (Nat.le_of_eq hSZ.out.symm) hk) hk2), f3⟩)
def ex1 : ByteArray := ⟨#[123, 97, 32, 46, 46, 46, 111, 110, 32, 66, 123, 99, 125, 125]⟩
def ex2 : ByteArray := ⟨#[113, 117, 101, 114, 121, 40, 36, 120, 58, 73, 110, 116, 61, 36, 121, 41, 123, 97, 125]⟩
def ex1T : List (Int × List UInt8) := [(1, [123]), (2, [97]), (1, [46, 46, 46]), (2, [111, 110]), (2, [66]), (1, [123]), (2, [99]), (1, [125]), (1, [125])]
def ex2T : List (Int × List UInt8) := [(2, [113, 117, 101, 114, 121]), (1, [40]), (1, [36]), (2, [120]), (1, [58]), (2, [73, 110, 116]), (1, [61]), (1, [36]), (2, [121]), (1, [41]), (1, [123]), (2, [97]), (1, [125])]
theorem ex1_read : readS ex1.data.toList = (ex1T, 0) := by decide +kernel
theorem ex2_read : readS ex2.data.toList = (ex2T, 0) := by decide +kernel
def exS2 : SelT := .mk 2 eB eB .nil [] (bz [66]) (.cons (.mk 0 eB (bz [99]) .nil [] eB .nil) .nil)
def exDoc : DocT := ⟨[⟨0, eB, [], [], .cons (.mk 0 eB (bz [97]) .nil [] eB .nil) (.cons exS2 .nil)⟩], []⟩
theorem ex1_doc : docR (tokB ex1T) = .ok exDoc := by kernel_rfl
theorem ex2_doc : docR (tokB ex2T) = .error 2 := by kernel_rfl
theorem whole_of {α : Type} {R : List Tok → Except Int (α × List Tok)} {l : List UInt8} {ts : List (Int × List UInt8)} (h : readS l = (ts, 0)) : wholeA R l = (match R (tokB ts) with | .error x => .error x | .ok (a, r) => if r = [] then .ok a else .error 2) := by
 unfold wholeA
 rw [h, if_neg (by simp)]
 all_goals (cases R (tokB ts) <;> rfl)
theorem doc_of {l : List UInt8} {ts : List (Int × List UInt8)} (h : readS l = (ts, 0)) : wholeA docRr l = docR (tokB ts) := by
 rw [whole_of h]
 unfold docRr
 cases docR (tokB ts) with
 | error x => rfl
 | ok D => rfl
theorem ex1_whole : wholeA docRr ex1.data.toList = .ok exDoc := by rw [doc_of ex1_read, ex1_doc]
theorem ex2_whole : wholeA docRr ex2.data.toList = .error 2 := by rw [doc_of ex2_read, ex2_doc]
theorem ex_cells {w w' : World} {A0 : Option Addr} {n0 k0 : Nat} {A1 : Option Addr} {n1 k1 : Nat} (h : TS w' (Fresh w w') (encDoc exDoc) [.slice A0 n0 k0, .slice A1 n1 k1]) :
  n0 = 1 ∧ ∃ b o b2 o2 k2, A0 = some ⟨b, o, none⟩ ∧ b < w'.heap.size ∧ b2 < w'.heap.size ∧ w'.cell? ⟨b, o + 4, none⟩ = some (.slice (some ⟨b2, o2, none⟩) 2 k2) ∧ w'.cell? ⟨b2, o2 + 12, none⟩ = some (.string ⟨#[66]⟩) := by
 unfold encDoc exDoc at h
 simp only [rowOf, TS, TP, encOp] at h
 obtain ⟨c0, _, e0, ⟨A, k, rfl, _, hl⟩, _⟩ := h
 injection e0 with e0 _
 injection e0 with e1 e2 e3
 subst e1 e2
 rw [RowT] at hl
 obtain ⟨b, o, cs, rfl, hb, hc, hs, _⟩ := hl
 refine ⟨rfl, b, o, ?_⟩
 simp only [TS, TP, encSL] at hs
 obtain ⟨x0, _, rfl, _, x1, _, rfl, _, x2, _, rfl, _, x3, _, rfl, _, x4, _, rfl, ⟨A4, k4, rfl, _, h4⟩, _⟩ := hs
 rw [RowT] at h4
 obtain ⟨b2, o2, cs2, rfl, hb2, hc2, hs2, h5⟩ := h4
 rw [RowT] at h5
 obtain ⟨b3, o3, cs3, e3, hb3, hc3, hs3, _⟩ := h5
 have e3 := Option.some.inj e3
 injection e3 with q1 q2 _
 subst q1 q2
 unfold exS2 at hs3
 rw [encS] at hs3
 simp only [TS, TP] at hs3
 obtain ⟨y0, _, rfl, _, y1, _, rfl, _, y2, _, rfl, _, y3, _, rfl, _, y4, _, rfl, _, y5, _, rfl, ⟨rfl, _⟩, _⟩ := hs3
 have hlen : (encS (.mk 0 eB (bz [97]) .nil [] eB .nil)).len = 7 := by rw [encS]; rfl
 refine ⟨b2, o2, k4, rfl, hb.2, hb2.2, hc 4 _ rfl, ?_⟩
 have := hc3 5 _ rfl
 rw [hlen] at this
 exact this
set_option maxRecDepth 100000 in
set_option maxHeartbeats 4000000 in
theorem awake_any (w : World) (h3 : Laid3 w) (h5 : Laid5 w) : Calls Tryz.prog 13 #[] w fun e w' => e = .returned (.bool true) ∧ Below w.heap.size w w' := by
 have H1 := Hd (pread_any ex1 w (by decide) h3 h5)
 rw [ex1_whole] at H1
 have H2 := fun wx (hb : Below w.heap.size w wx) => Hd (pread_any ex2 wx (by decide) (h3.below hb) (h5.below hb))
 rw [ex2_whole] at H2
 clear h3 h5
 go_enter Tryz.func13, Tryz.ntmps13
 go_wp2_with fail
 refine H1.out.mono ?_
 rintro e w1 ⟨A0, n0, k0, A1, n1, k1, x, rfl, ⟨rfl, hts⟩, hb1⟩
 obtain ⟨rfl, b, o, b2, o2, k2, rfl, hlb, hlb2, hc1, hc2⟩ := ex_cells hts
 have B1 := Hd (hb1.alloc hb1.size (.cells #[.slice (some ⟨b, o, none⟩) 1 k0, .slice A1 n1 k1] 26))
 have C1 := Hd (show (w1.alloc (.cells #[.slice (some ⟨b, o, none⟩) 1 k0, .slice A1 n1 k1] 26)).heap[w1.heap.size]? = _ from heap_alloc_last _ _)
 have HC := Hd (And.intro hc1 hc2)
 clear hts hb1 hc1 hc2 H1
 go_wp2_with fail
 refine (H2 _ B1.out).out.mono ?_
 rintro e w2 ⟨A2, n2, k2', A3, n3, k3, x2, rfl, ⟨rfl, _, hz⟩, hb2⟩
 simp only [List.cons.injEq, Value.slice.injEq, and_true] at hz
 obtain ⟨⟨rfl, rfl, rfl⟩, rfl, rfl, rfl⟩ := hz
 have hs2 := hb2.size
 have hsz : (w1.alloc (.cells #[.slice (some ⟨b, o, none⟩) 1 k0, .slice A1 n1 k1] 26)).heap.size = w1.heap.size + 1 := by simp
 have hB := fun obj => (hb2.alloc hb2.size obj)
 have B2 := Hd (B1.out.trans (hb2.mono B1.out.size))
 have d0 := fun obj => ((hB obj).block w1.heap.size (by omega)).trans C1.out
 have d1 := fun obj => ((hB obj).cell (p := ⟨b, o + 4, none⟩) (by show b < _; omega)).trans ((World.cell?_of_block (a := ⟨b, o + 4, none⟩) (Below.heap_alloc _ _ _ hlb)).trans HC.out.1)
 have d2 := fun obj => ((hB obj).cell (p := ⟨b2, o2 + 12, none⟩) (by show b2 < _; omega)).trans ((World.cell?_of_block (a := ⟨b2, o2 + 12, none⟩) (Below.heap_alloc _ _ _ hlb2)).trans HC.out.2)
 obtain ⟨c0, c1, _⟩ := ptc (d0 (.cells #[.slice none 0 0, .slice none 0 0] 26))
 have c4 := d1 (.cells #[.slice none 0 0, .slice none 0 0] 26)
 have c5 := d2 (.cells #[.slice none 0 0, .slice none 0 0] 26)
 have B3 := Hd (B2.out.alloc B2.out.size (.cells #[.slice none 0 0, .slice none 0 0] 26))
 clear d0 d1 d2 hb2 hB
 go_wp2_with fail
 go_ret
 exact ⟨rfl, B3.out⟩
def RowV (w : World) (B : Nat) (l : VL) (A : Option Addr) : Prop := ∀ (j : Nat) v, l.get j = some v → ∃ b o c0 c1 c2 c3 c4, A = some ⟨b, o, none⟩ ∧ b < w.heap.size ∧ Five w b (o + j * 5) c0 c1 c2 c3 c4 ∧ VAt w B v c0 c1 c2 c3 c4
theorem RowV.of_list {w : World} {B : Nat} {l : VL} {A : Option Addr} (hB : B ≤ w.heap.size) (h : LAt w B l A 0) : RowV w B l A := fun j v hv => by
 obtain ⟨b, o, c0, c1, c2, c3, c4, hA, hlt, hf, hV⟩ := LAt.at h hv
 rw [Nat.zero_add] at hf
 exact ⟨b, o, c0, c1, c2, c3, c4, hA, Nat.lt_of_lt_of_le hlt hB, hf, hV⟩
theorem RowV.below {w w' : World} {B : Nat} {l : VL} {A : Option Addr} (h : RowV w B l A) (hB : B ≤ w.heap.size) (hb : Below w.heap.size w w') : RowV w' B l A := fun j v hv => by
 obtain ⟨b, o, c0, c1, c2, c3, c4, hA, hlt, hf, hV⟩ := h j v hv
 exact ⟨b, o, c0, c1, c2, c3, c4, hA, Nat.lt_of_lt_of_le hlt hb.size, hf.below hb hlt, VAt.below (hb.mono hB) _ _ _ _ _ _ hV⟩
def ValsA (w : World) (B : Nat) : VL → List Value → Prop
 | .nil, xs => xs = []
 | .cons v t, xs => ∃ c0 c1 c2 c3 c4 ys, xs = c0 :: c1 :: c2 :: c3 :: c4 :: ys ∧ VAt w B v c0 c1 c2 c3 c4 ∧ ValsA w B t ys
theorem ValsA.below {w w' : World} {B : Nat} (hb : Below B w w') : ∀ {l : VL} {xs : List Value}, ValsA w B l xs → ValsA w' B l xs
 | .nil, _, h => h
 | .cons v t, xs, h => by
   obtain ⟨c0, c1, c2, c3, c4, ys, e, hv, ht⟩ := h
   exact ⟨c0, c1, c2, c3, c4, ys, e, VAt.below hb _ _ _ _ _ _ hv, ValsA.below hb ht⟩
theorem ValsA.len {w : World} {B : Nat} : ∀ {l : VL} {xs : List Value}, ValsA w B l xs → xs.length = l.len * 5
 | .nil, xs, h => by
   have : xs = [] := h
   rw [this]; rfl
 | .cons v t, xs, h => by
   obtain ⟨c0, c1, c2, c3, c4, ys, rfl, hv, ht⟩ := h
   have := ValsA.len ht
   simp only [List.length_cons, VL.len]; omega
theorem ValsA.app {w : World} {B : Nat} : ∀ {l r : VL} {xs ys : List Value}, ValsA w B l xs → ValsA w B r ys → ValsA w B (l.app r) (xs ++ ys)
 | .nil, r, xs, ys, h, h' => by
   have : xs = [] := h
   rw [this]; exact h'
 | .cons v t, r, xs, ys, h, h' => by
   obtain ⟨c0, c1, c2, c3, c4, zs, rfl, hv, ht⟩ := h
   exact ⟨c0, c1, c2, c3, c4, zs ++ ys, by simp, hv, ValsA.app ht h'⟩
theorem VAt.one {w : World} {B : Nat} {v : VT} {c0 c1 c2 c3 c4 : Value} (h : VAt w B v c0 c1 c2 c3 c4) : c0.oneCell' = true ∧ c1.oneCell' = true ∧ c2.oneCell' = true ∧ c3.oneCell' = true ∧ c4.oneCell' = true := by
 obtain ⟨k, n, s, l, m⟩ := v
 unfold VAt at h
 obtain ⟨rfl, rfl, rfl, _, ⟨A, c, rfl, _, _⟩, A', c', rfl, _, _⟩ := h
 exact ⟨rfl, rfl, rfl, rfl, rfl⟩
theorem ValsA.one {w : World} {B : Nat} : ∀ {l : VL} {xs : List Value}, ValsA w B l xs → ∀ u ∈ xs, u.oneCell' = true
 | .nil, xs, h, u, hu => by
   have : xs = [] := h
   rw [this] at hu; simp at hu
 | .cons v t, xs, h, u, hu => by
   obtain ⟨c0, c1, c2, c3, c4, ys, rfl, hv, ht⟩ := h
   obtain ⟨h0, h1, h2, h3, h4⟩ := hv.one
   simp only [List.mem_cons] at hu
   rcases hu with rfl | rfl | rfl | rfl | rfl | hu
   · exact h0
   · exact h1
   · exact h2
   · exact h3
   · exact h4
   · exact ValsA.one ht u hu
theorem ValsA.get {w : World} {B : Nat} : ∀ {l : VL} {xs : List Value} {j : Nat} {v : VT}, ValsA w B l xs → l.get j = some v → ∃ c0 c1 c2 c3 c4, VAt w B v c0 c1 c2 c3 c4 ∧ xs[j * 5]? = some c0 ∧ xs[j * 5 + 1]? = some c1 ∧ xs[j * 5 + 2]? = some c2 ∧ xs[j * 5 + 3]? = some c3 ∧ xs[j * 5 + 4]? = some c4
 | .nil, _, _, _, _, h => by simp [VL.get] at h
 | .cons u t, xs, 0, v, h, hg => by
   have : u = v := by simpa [VL.get] using hg
   subst this
   obtain ⟨c0, c1, c2, c3, c4, ys, rfl, hv, ht⟩ := h
   exact ⟨c0, c1, c2, c3, c4, hv, rfl, rfl, rfl, rfl, rfl⟩
 | .cons u t, xs, j + 1, v, h, hg => by
   obtain ⟨c0, c1, c2, c3, c4, ys, rfl, hv, ht⟩ := h
   obtain ⟨d0, d1, d2, d3, d4, hv', h0, h1, h2, h3, h4⟩ := ValsA.get (l := t) (j := j) (v := v) ht hg
   refine ⟨d0, d1, d2, d3, d4, hv', ?_, ?_, ?_, ?_, ?_⟩
   · rw [show (j + 1) * 5 = j * 5 + 5 by omega]; simpa using h0
   · rw [show (j + 1) * 5 + 1 = (j * 5 + 1) + 5 by omega]; simpa using h1
   · rw [show (j + 1) * 5 + 2 = (j * 5 + 2) + 5 by omega]; simpa using h2
   · rw [show (j + 1) * 5 + 3 = (j * 5 + 3) + 5 by omega]; simpa using h3
   · rw [show (j + 1) * 5 + 4 = (j * 5 + 4) + 5 by omega]; simpa using h4
theorem row_vals {w : World} {B b o : Nat} : ∀ (l : VL) (i : Nat), (∀ (j : Nat) v, l.get j = some v → ∃ c0 c1 c2 c3 c4, Five w b (o + (i + j) * 5) c0 c1 c2 c3 c4 ∧ VAt w B v c0 c1 c2 c3 c4) → ∃ xs, ValsA w B l xs ∧ ∀ j u, xs[j]? = some u → w.cell? ⟨b, o + i * 5 + j, none⟩ = some u
 | .nil, _, _ => ⟨[], rfl, fun j u h => by simp at h⟩
 | .cons v t, i, h => by
   obtain ⟨c0, c1, c2, c3, c4, hf, hv⟩ := h 0 v rfl
   obtain ⟨xs, hx, hc⟩ := row_vals t (i + 1) (fun j v hj => by
     have := h (j + 1) v hj
     rwa [show i + (j + 1) = i + 1 + j by omega] at this)
   refine ⟨c0 :: c1 :: c2 :: c3 :: c4 :: xs, ⟨c0, c1, c2, c3, c4, xs, rfl, hv, hx⟩, fun j u hj => ?_⟩
   obtain ⟨f0, f1, f2, f3, f4⟩ := hf
   rw [Nat.add_zero] at f0 f1 f2 f3 f4
   match j, hj with
   | 0, hj => cases hj; exact f0
   | 1, hj => cases hj; exact f1
   | 2, hj => cases hj; exact f2
   | 3, hj => cases hj; exact f3
   | 4, hj => cases hj; exact f4
   | j + 5, hj =>
     have := hc j u (by simpa using hj)
     rwa [show o + (i + 1) * 5 + j = o + i * 5 + (j + 5) by omega] at this
theorem RowV.vals {w : World} {B : Nat} {l : VL} {a : Addr} (h : RowV w B l (some a)) : ∃ xs, ValsA w B l xs ∧ ∀ j u, xs[j]? = some u → w.cell? (a.add j) = some u := by
 cases hl : l with
 | nil => exact ⟨[], rfl, fun j u h => by simp at h⟩
 | cons v t =>
   rw [hl] at h
   obtain ⟨b, o, _, _, _, _, _, hA, _, _, _⟩ := h 0 v rfl
   have ha : a = ⟨b, o, none⟩ := by injection hA
   subst ha
   obtain ⟨xs, hx, hc⟩ := row_vals (w := w) (B := B) (b := b) (o := o) (.cons v t) 0 (fun j v hv => by
    obtain ⟨b', o', c0, c1, c2, c3, c4, hA', _, hf, hV⟩ := h j v hv
    injection hA' with e
    injection e with e1 e2
    subst e1 e2
    rw [Nat.zero_add]
    exact ⟨c0, c1, c2, c3, c4, hf, hV⟩)
   refine ⟨xs, hx, fun j u hj => ?_⟩
   rw [add_at]
   have := hc j u hj
   rwa [Nat.zero_mul, Nat.add_zero] at this
theorem row_owned {w : World} {base B : Nat} {V : Value} {l : VL} {xs : List Value} (h : w.ownsRow base 35 5 V l.len xs) (hv : ValsA w B l xs) : ∃ A c, V = .slice A l.len c ∧ RowV w B l A := by
 obtain ⟨A, c, rfl⟩ := shape_own h
 refine ⟨A, c, rfl, fun j v hj => ?_⟩
 rcases h.2 with ⟨hV, hn⟩ | ⟨g, cap, cur, hV, _, hg, _, _, _, _⟩
 · have := VL.nil_of_len hn
   subst this
   simp [VL.get] at hj
 · injection hV with e1 e2 e3
   subst e1
   obtain ⟨c0, c1, c2, c3, c4, hvj, h0, h1, h2, h3, h4⟩ := hv.get hj
   have hlt : ∀ i u, xs[i]? = some u → w.cell? ⟨g, i, none⟩ = some u := fun i u hu => by
    have hil := (List.getElem?_eq_some_iff.1 hu).1
    rw [h.1] at hil
    rw [World.ownsRow.cellAt h i hil, hu]
   have hgs : g < w.heap.size := (h.lt g rfl).2
   exact ⟨g, 0, c0, c1, c2, c3, c4, rfl, hgs, ⟨by rw [Nat.zero_add]; exact hlt _ _ h0, by rw [Nat.zero_add]; exact hlt _ _ h1, by rw [Nat.zero_add]; exact hlt _ _ h2, by rw [Nat.zero_add]; exact hlt _ _ h3, by rw [Nat.zero_add]; exact hlt _ _ h4⟩, hvj⟩
def namesTo (p : List UInt8 → Bool) : VM → Nat → Bool
 | _, 0 => true
 | .nil, _ + 1 => true
 | .cons nm _ t, j + 1 => p nm.data.toList && namesTo p t j
theorem namesTo_zero (p : List UInt8 → Bool) (m : VM) : namesTo p m 0 = true := by cases m <;> rfl
theorem namesTo_next (p : List UInt8 → Bool) : ∀ {m : VM} {j : Nat} {nm : ByteArray} {v : VT}, m.get j = some (nm, v) → namesTo p m (j + 1) = (namesTo p m j && p nm.data.toList)
 | .nil, _, _, _, h => by simp [VM.get] at h
 | .cons x u t, 0, nm, v, h => by
   have : x = nm ∧ u = v := by simpa [VM.get] using h
   obtain ⟨rfl, rfl⟩ := this
   show (p x.data.toList && namesTo p t 0) = (true && p x.data.toList)
   rw [namesTo_zero]; simp
 | .cons x u t, j + 1, nm, v, h => by
   rw [namesTo, namesTo_next p (m := t) (j := j) (v := v) h, namesTo, Bool.and_assoc]
theorem namesTo_all (p : List UInt8 → Bool) : ∀ m : VM, namesTo p m m.len = namesB p m
 | .nil => rfl
 | .cons nm v t => by rw [VM.len, namesTo, namesTo_all p t, namesB]
theorem names_no (p : List UInt8 → Bool) : ∀ {m : VM} {j : Nat} {nm : ByteArray} {v : VT}, m.get j = some (nm, v) → p nm.data.toList = false → namesB p m = false
 | .nil, _, _, _, h, _ => by simp [VM.get] at h
 | .cons x u t, 0, nm, v, h, hp => by
   have : x = nm ∧ u = v := by simpa [VM.get] using h
   obtain ⟨rfl, rfl⟩ := this
   rw [namesB, hp]; rfl
 | .cons x u t, j + 1, nm, v, h, hp => by
   rw [namesB, names_no p (m := t) (j := j) h hp]; simp
theorem name_size : ∀ {m : VM} {j : Nat} {nm : ByteArray} {v : VT}, m.get j = some (nm, v) → nm.size ≤ sizeM m ∧ sizeV v ≤ sizeM m := fun h => by
 have := sizeM_get h
 omega
def TestC (fn : Nat) (p : List UInt8 → Bool) : Prop := (∀ args w, (callFunc fn args).run Tryz.prog w = .ok (.enter fn args) w) ∧ ∀ (s : ByteArray) (w : World), s.size ≤ 1100000 → Laid5 w → Calls Tryz.prog fn #[.string s] w fun e w' => e = .returned (.bool (p s.data.toList)) ∧ Below w.heap.size w w'
set_option maxRecDepth 100000 in
set_option maxHeartbeats 4000000 in
theorem named_any (fn : Nat) (p : List UInt8 → Bool) (hp : TestC fn p) (m : VM) (A : Option Addr) (c : Nat) (w : World) (B : Nat) (hB : B ≤ w.heap.size) (hm : m.len ≤ 9223372036854775807) (hM : MAt w B m A 0) (hz : sizeM m ≤ 1100000) (hw : Laid5 w) :
  Calls Tryz.prog 195 #[.slice A m.len c, .func (.func fn) #[] #[]] w fun e w' => e = .returned (.bool (namesB p m)) ∧ Below w.heap.size w w' := by
 obtain ⟨he, hP⟩ := hp
 have HP := Hd hP
 have HM := Hd hM
 have HB0 := Hd hB
 have HZ := Hd hz
 have HW := Hd hw
 clear hM hB hP hz hw
 go_enter Tryz.func195, Tryz.ntmps195
 go_wp2_with fail
 go_loopg [9] m.len (fun g i wx => ∃ q : Nat, q + g = m.len ∧ i = .int .i64 q ∧ Below w.heap.size w wx ∧ Aside (namesTo p m q = true))
 case atStart => exact ⟨0, by omega, rfl, Below.refl _ _, vaside (namesTo_zero _ _)⟩
 case round =>
  obtain ⟨q, hq, rfl, hb, HA⟩ := hrel
  have HBB := Hd hb
  clear hb
  cases gk with
  | zero =>
    obtain rfl : q = m.len := by omega
    have hG : Hid (namesB p m = true) := Hd (by rw [← namesTo_all]; exact HA)
    clear HA
    go_wp2_with fail
    go_ret
    exact ⟨ret_bool hG.out.symm, HBB.out⟩
  | succ g =>
    have hqn : q < m.len := by omega
    have hqn' : (q : Int) < (m.len : Int) := by omega
    obtain ⟨⟨nm, v⟩, hv⟩ := VM.get_lt hqn
    have hns := Nat.le_trans (name_size hv).1 HZ.out
    obtain ⟨b, o, d0, d1, d2, d3, d4, rfl, hblt, hnm, _, hF, hV⟩ := MAt.at (MAt.below (HBB.out.mono HB0.out) _ _ _ HM.out) hv
    rw [Nat.zero_add] at hF hnm
    have hnx := Hd (namesTo_next p hv)
    have hno := Hd (names_no p hv)
    have C := fun (wx : World) (hx : Below wr.heap.size wr wx) => Hd (HP.out nm wx hns ((HW.out.below HBB.out).below hx))
    obtain ⟨vk, vn, vs, vl, vm⟩ := v
    unfold VAt at hV
    obtain ⟨rfl, rfl, rfl, _, ⟨A3, c3', rfl, _, _⟩, A4, c4', rfl, _, _⟩ := hV
    obtain ⟨f0, f1, f2, f3, f4⟩ := hF
    have hnew := fun o => (Below.refl wr.heap.size wr).alloc (Nat.le_refl _) o
    have HN := Hd hnew
    clear hnew hv
    cases hpn : p nm.data.toList with
    | true =>
      rw [hpn] at C
      have hN : Hid (namesTo p m (q + 1) = true) := Hd (by rw [hnx.out, HA, hpn]; rfl)
      clear HA hpn hno hnx
      go_wp2_with fail
      refine (C _ (HN.out _)).out.mono ?_
      rintro e w1 ⟨rfl, hb1⟩
      have HB1 := Hd (HBB.out.trans (((HN.out _).trans (hb1.mono (by simp))).mono HBB.out.size))
      clear hb1 C f0 f1 f2 f3 f4 hnm
      go_wp2_with fail
      go_roundg g
      case measure => omega
      case rel => exact ⟨q + 1, by omega, by go_num, HB1.out, vaside hN.out⟩
    | false =>
      rw [hpn] at C
      have hN : Hid (namesB p m = false) := Hd (hno.out hpn)
      clear HA hpn hno hnx
      go_wp2_with fail
      refine (C _ (HN.out _)).out.mono ?_
      rintro e w1 ⟨rfl, hb1⟩
      have HB1 := Hd (HBB.out.trans (((HN.out _).trans (hb1.mono (by simp))).mono HBB.out.size))
      clear hb1 C f0 f1 f2 f3 f4 hnm
      go_wp2_with fail
      go_ret
      exact ⟨ret_bool hN.out.symm, HB1.out⟩
end Go.Proofs.YtpkmbhnikilihaaGreatDoor
