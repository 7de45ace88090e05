/- A schema that comes in, opened: as a plain tree; its rows are no longer than the reach. (gen_open.py wrote it.) -/
import Derived.Test.YtcfdfgbobnocnaaGreatDoorDfPoss
import Derived.SizedLaws
namespace Go.Proofs.YtcfdfgbobnocnaaGreatDoor
open Go.ChangeShapes Go.WideShapes Go.ChangeAt Go.RowKit

theorem weights_all6 {H : Type} {P : Program} {e : TypeId} {d : DataW H} {m : Nat} : ∀ {l : List (DataW H)}, d ∈ l → m ∈ d.weights P e → m ∈ DataW.weightsAll P e l
  | [], h, _ => by simp at h
  | x :: r, h, hm => by
    rw [DataW.weightsAll]
    rcases List.mem_cons.1 h with rfl | h
    · exact List.mem_append_left _ hm
    · exact List.mem_append_right _ (weights_all6 h hm)
theorem cells_out {W : World} {b o n : Nat} {cs : List Value} (hn : 0 < n) (h : W.cells? 0 ⟨b, o, none⟩ n = some cs) : b < W.heap.size ∧ cs.length = n ∧ ∀ (j : Nat) u, cs[j]? = some u → W.cell? ⟨b, o + j, none⟩ = some u := by
  obtain ⟨_, hl, hat⟩ := World.cells?_some h
  simp only [add_at] at hat
  have g0 := hat 0 hn
  rw [List.getElem?_eq_getElem (by omega)] at g0
  exact ⟨World.block_lt_of_cell? W _ g0, hl, fun j u hu => (hat j (by have := (List.getElem?_eq_some_iff.1 hu).1; omega)).trans hu⟩
theorem spot_out {W : World} {a : Addr} {n : Nat} {cs : List Value} (hn : 0 < n) (h : W.cells? 0 a n = some cs) : a.spot = none := by
  obtain ⟨_, hl, hat⟩ := World.cells?_some h
  have h2 := hat 0 (by omega)
  rw [List.getElem?_eq_getElem (by omega)] at h2
  have := World.cell?_spot h2
  obtain ⟨b, o, spot⟩ := a
  simpa [Addr.add] using this
/-- A row out of its elements. -/
theorem row_opened {H α : Type} {f : α → TrS} {k : Nat} {R : α → DataW H → Prop} {W : World} {b o : Nat} {T : List Value → Option (DataW H × List MemPlace)} (hk : ∀ a, (f a).len = k) (hkp : 0 < k) (IH : ∀ cs x, T cs = some x → ∃ a, TS W (fun b => b < W.heap.size) (f a) cs ∧ R a x.1) : ∀ (elems : List (DataW H × List MemPlace)) (j : Nat),
    (∀ i, i < elems.length → (W.cells? 0 ⟨b, o + (j + i) * k, none⟩ k).bind T = elems[i]?) →
    ∃ l : List α, l.length = elems.length ∧ RowT W (fun b => b < W.heap.size) (rowOf f l) (some ⟨b, o + j * k, none⟩) ∧ ∀ a, a ∈ l → ∃ x, x ∈ elems ∧ R a x.1
  | [], j, _ => ⟨[], rfl, by rw [rowOf]; unfold RowT; trivial, fun a h => by simp at h⟩
  | x :: elems, j, h => by
    have h0 := h 0 (by simp)
    rw [Nat.add_zero] at h0
    obtain ⟨cs, hc, ht⟩ := Option.bind_eq_some_iff.1 (h0.trans rfl)
    obtain ⟨a, ha, hr⟩ := IH cs x ht
    obtain ⟨hlt, hl, hF⟩ := cells_out hkp hc
    obtain ⟨l, h1, h2, h3⟩ := row_opened hk hkp IH elems (j + 1) (fun i hi => by
      have := h (i + 1) (by simp; omega)
      rw [show j + (i + 1) = j + 1 + i by omega] at this
      simpa using this)
    refine ⟨a :: l, by simp [h1], ?_, fun a' ha' => ?_⟩
    · rw [rowOf]
      unfold RowT
      refine ⟨b, o + j * k, cs, rfl, hlt, hF, ha, ?_⟩
      rw [hk]
      rwa [show o + j * k + k = o + (j + 1) * k by rw [Nat.succ_mul]; omega]
    · rcases List.mem_cons.1 ha' with rfl | ha'
      · exact ⟨x, List.mem_cons_self .., hr⟩
      · obtain ⟨y, hy, hr'⟩ := h3 a' ha'
        exact ⟨y, List.mem_cons_of_mem _ hy, hr'⟩
/-- A slice that came in. -/
theorem slc_opened {H α : Type} {enc : TypeId × Value → H} {W : World} {f : α → TrS} {k by_ fuel : Nat} {st et : TypeId} {cv : Value} {x : DataW H × List MemPlace} {R : α → DataW H → Prop} (hu : Tryz.prog.underlying st = some (.slice et)) (hc : Tryz.prog.cellsOf et = k) (hby : Tryz.prog.bytesOf et = by_) (hk : ∀ a, (f a).len = k) (hkp : 0 < k)
    (IH : ∀ n, n < fuel → ∀ cs x, DataW.trod enc Tryz.prog W 0 (fun _ => true) true n et cs = some x → ∃ a, TS W (fun b => b < W.heap.size) (f a) cs ∧ R a x.1)
    (h : DataW.trod enc Tryz.prog W 0 (fun _ => true) true fuel st [cv] = some x) : ∃ (l : List α) (A : Option Addr) (c : Nat), cv = .slice A l.length c ∧ l.length ≤ 9223372036854775807 ∧ RowT W (fun b => b < W.heap.size) (rowOf f l) A ∧
      ((∀ m ∈ x.1.weights Tryz.prog st, m ≤ reachBytes) → l.length * by_ ≤ 140737488355328 ∧ ∀ a, a ∈ l → ∃ d, R a d ∧ ∀ m ∈ d.weights Tryz.prog et, m ≤ reachBytes) := by
  rcases DataW.trod_slice hu h with ⟨hc, rfl⟩ | ⟨a, len, cap, elems, rest, n', hn', hcv, rfl, _, hlc, hcm, hel, hat, _⟩
  · simp only [List.cons.injEq, and_true] at hc
    exact ⟨[], none, 0, hc, Nat.zero_le _, by rw [rowOf]; unfold RowT; trivial, fun _ => ⟨by simp, fun a h => by simp at h⟩⟩
  · simp only [List.cons.injEq, and_true] at hcv
    subst hel
    rw [hc] at hat
    obtain ⟨b, o, spot⟩ := a
    rcases Nat.eq_zero_or_pos elems.length with hz | hz
    · have he : elems = [] := List.eq_nil_of_length_eq_zero hz
      subst he
      exact ⟨[], _, cap, hcv, Nat.zero_le _, by rw [rowOf]; unfold RowT; trivial, fun _ => ⟨by simp, fun a h => by simp at h⟩⟩
    · have hsp : spot = none := by
        have h1 := hat 0 hz
        rw [List.getElem?_eq_getElem hz] at h1
        obtain ⟨cs', hc', _⟩ := Option.bind_eq_some_iff.1 h1
        have h3 := spot_out hkp hc'
        simpa [Addr.add] using h3
      subst hsp
      obtain ⟨l, h1, h2, h3⟩ := row_opened (T := DataW.trod enc Tryz.prog W 0 (fun _ => true) true n' et) (R := R) hk hkp (IH n' (by omega)) elems 0 (fun i hi => by
        have := hat i hi
        rwa [add_at, show i * k = (0 + i) * k by rw [Nat.zero_add]] at this)
      refine ⟨l, _, cap, by rw [hcv, h1], by rw [h1]; exact Nat.le_trans hlc hcm, by rw [Nat.zero_mul, Nat.add_zero] at h2; exact h2, fun hm => ?_⟩
      simp only [DataW.weights, hu] at hm
      refine ⟨?_, fun a ha => ?_⟩
      · have := hm _ (List.mem_cons.2 (.inl rfl))
        simp only [List.length_map, hby, reachBytes] at this
        rw [h1]
        have h4 : elems.length * by_ ≤ (elems.length + rest.length) * by_ := Nat.mul_le_mul_right _ (Nat.le_add_right _ _)
        omega
      · obtain ⟨y, hy, hr⟩ := h3 a ha
        exact ⟨y.1, hr, fun m h => hm m (List.mem_cons.2 (.inr (List.mem_append.2 (.inl (weights_all6 (List.mem_map.2 ⟨y, hy, rfl⟩) h)))))⟩
def listVL : List VT → VL
  | [] => .nil
  | v :: t => .cons v (listVL t)
theorem enc_listVL : ∀ l : List VT, encL (listVL l) = rowOf encV l
  | [] => by rw [listVL, encL, rowOf]
  | v :: t => by rw [listVL, encL, rowOf, enc_listVL t]
theorem len_listVL : ∀ l : List VT, (listVL l).len = l.length
  | [] => rfl
  | v :: t => by rw [listVL, VL.len, len_listVL t]; rfl
theorem slim_listVL : ∀ {l : List VT}, (∀ a, a ∈ l → SlimV a) → SlimL (listVL l)
  | [], _ => by rw [listVL]; unfold SlimL; trivial
  | v :: t, h => by rw [listVL]; unfold SlimL; exact ⟨h v (List.mem_cons_self ..), slim_listVL (fun a ha => h a (List.mem_cons_of_mem _ ha))⟩
def encPair (p : ByteArray × VT) : TrS := .cons (.one (.string p.1)) (encV p.2)
def listVM : List (ByteArray × VT) → VM
  | [] => .nil
  | p :: t => .cons p.1 p.2 (listVM t)
theorem slim_listVM : ∀ {l : List (ByteArray × VT)}, (∀ a, a ∈ l → SlimV a.2) → SlimM (listVM l)
  | [], _ => by rw [listVM]; unfold SlimM; trivial
  | p :: t, h => by rw [listVM]; unfold SlimM; exact ⟨h p (List.mem_cons_self ..), slim_listVM (fun a ha => h a (List.mem_cons_of_mem _ ha))⟩
def DeepF (f : FieldT) : Prop := ∀ x, x ∈ f.dirs → SlimM x.2
def DeepD (d : DefnT) : Prop := ∀ f, f ∈ d.fields → DeepF f
def DeepS (S : SchT) : Prop := ∀ d, d ∈ S.defs → DeepD d
theorem enc_listVM : ∀ l : List (ByteArray × VT), encM (listVM l) = rowOf encPair l
  | [] => by rw [listVM, encM, rowOf]
  | p :: t => by rw [listVM, encM, rowOf, enc_listVM t]; rfl
theorem len_listVM : ∀ l : List (ByteArray × VT), (listVM l).len = l.length
  | [] => rfl
  | p :: t => by rw [listVM, VM.len, len_listVM t]; rfl
theorem ocInt : Tryz.prog.cellsOf 3 = 1 := by kernel_rfl
theorem ocI64 : Tryz.prog.cellsOf 2 = 1 := by kernel_rfl
theorem ocStr : Tryz.prog.cellsOf 9 = 1 := by kernel_rfl
theorem ocBool : Tryz.prog.cellsOf 4 = 1 := by kernel_rfl
theorem ocSV : Tryz.prog.cellsOf 27 = 1 := by kernel_rfl
theorem ocSM : Tryz.prog.cellsOf 28 = 1 := by kernel_rfl
theorem ocSS : Tryz.prog.cellsOf 38 = 1 := by kernel_rfl
theorem ocSP : Tryz.prog.cellsOf 63 = 1 := by kernel_rfl
theorem ocSD : Tryz.prog.cellsOf 82 = 1 := by kernel_rfl
theorem ocSF : Tryz.prog.cellsOf 62 = 1 := by kernel_rfl
theorem ocSDf : Tryz.prog.cellsOf 22 = 1 := by kernel_rfl
theorem ocTy : Tryz.prog.cellsOf 26 = 3 := by kernel_rfl
theorem ocVal : Tryz.prog.cellsOf 30 = 5 := by kernel_rfl
theorem ocMem : Tryz.prog.cellsOf 73 = 6 := by kernel_rfl
theorem ocPar : Tryz.prog.cellsOf 69 = 10 := by kernel_rfl
theorem ocDir : Tryz.prog.cellsOf 98 = 2 := by kernel_rfl
theorem ocFld : Tryz.prog.cellsOf 84 = 6 := by kernel_rfl
theorem ocDef : Tryz.prog.cellsOf 65 = 6 := by kernel_rfl
theorem ocSch : Tryz.prog.cellsOf 24 = 3 := by kernel_rfl
theorem obVal : Tryz.prog.bytesOf 30 = 80 := by kernel_rfl
theorem obMem : Tryz.prog.bytesOf 73 = 96 := by kernel_rfl
theorem obStr : Tryz.prog.bytesOf 9 = 16 := by kernel_rfl
theorem obPar : Tryz.prog.bytesOf 69 = 136 := by kernel_rfl
theorem obDir : Tryz.prog.bytesOf 98 = 40 := by kernel_rfl
theorem obFld : Tryz.prog.bytesOf 84 = 96 := by kernel_rfl
theorem obDef : Tryz.prog.bytesOf 65 = 120 := by kernel_rfl
theorem list_2 {cs : List Value} (h : cs.length = 2) : ∃ c0 c1, cs = [c0, c1] := by
  match cs, h with
  | [c0, c1], _ => exact ⟨_, _, rfl⟩
theorem list_3 {cs : List Value} (h : cs.length = 3) : ∃ c0 c1 c2, cs = [c0, c1, c2] := by
  match cs, h with
  | [c0, c1, c2], _ => exact ⟨_, _, _, rfl⟩
theorem list_5 {cs : List Value} (h : cs.length = 5) : ∃ c0 c1 c2 c3 c4, cs = [c0, c1, c2, c3, c4] := by
  match cs, h with
  | [c0, c1, c2, c3, c4], _ => exact ⟨_, _, _, _, _, rfl⟩
theorem list_6 {cs : List Value} (h : cs.length = 6) : ∃ c0 c1 c2 c3 c4 c5, cs = [c0, c1, c2, c3, c4, c5] := by
  match cs, h with
  | [c0, c1, c2, c3, c4, c5], _ => exact ⟨_, _, _, _, _, _, rfl⟩
theorem list_10 {cs : List Value} (h : cs.length = 10) : ∃ c0 c1 c2 c3 c4 c5 c6 c7 c8 c9, cs = [c0, c1, c2, c3, c4, c5, c6, c7, c8, c9] := by
  match cs, h with
  | [c0, c1, c2, c3, c4, c5, c6, c7, c8, c9], _ => exact ⟨_, _, _, _, _, _, _, _, _, _, rfl⟩
theorem open_ty {H : Type} {enc : TypeId × Value → H} {W : World} {fuel : Nat} {c0 c1 c2 : Value} {x : DataW H × List MemPlace} (h : DataW.trod enc Tryz.prog W 0 (fun _ => true) true fuel 26 [c0, c1, c2] = some x) : ∃ (n : ByteArray) (l m : Int), c0 = .string n ∧ c1 = .int .i64 l ∧ c2 = .int .i64 m ∧ n.size ≤ 9223372036854775807 := by
  obtain ⟨xs, n, rfl, rfl, hl, hxl, hf⟩ := DataW.trod_struct Tryz.underlying26 h
  have f0 : DataW.trod enc Tryz.prog W 0 (fun _ => true) true n 9 [c0] = xs[0]? := by have h' : DataW.trod enc Tryz.prog W 0 (fun _ => true) true n 9 (([c0, c1, c2].drop 0).take (Tryz.prog.cellsOf 9)) = xs[0]? := hf 0 _ rfl; rw [ocStr] at h'; exact h'
  have f1 : DataW.trod enc Tryz.prog W 0 (fun _ => true) true n 3 [c1] = xs[1]? := by have h' : DataW.trod enc Tryz.prog W 0 (fun _ => true) true n 3 (([c0, c1, c2].drop 1).take (Tryz.prog.cellsOf 3)) = xs[1]? := hf 1 _ rfl; rw [ocInt] at h'; exact h'
  have f2 : DataW.trod enc Tryz.prog W 0 (fun _ => true) true n 3 [c2] = xs[2]? := by have h' : DataW.trod enc Tryz.prog W 0 (fun _ => true) true n 3 (([c0, c1, c2].drop 2).take (Tryz.prog.cellsOf 3)) = xs[2]? := hf 2 _ rfl; rw [ocInt] at h'; exact h'
  match xs, hxl with
  | [y0, y1, y2], _ =>
    obtain ⟨t, e0, _, ht⟩ := DataW.trod_string Tryz.underlying9 (f0.trans rfl)
    obtain ⟨l, e1, _, _⟩ := DataW.trod_int Tryz.underlying3 (f1.trans rfl)
    obtain ⟨m, e2, _, _⟩ := DataW.trod_int Tryz.underlying3 (f2.trans rfl)
    simp only [List.cons.injEq, and_true] at e0 e1 e2
    exact ⟨t, l, m, e0, e1, e2, ht⟩
set_option maxRecDepth 100000 in
theorem open_vt {H : Type} {enc : TypeId × Value → H} {W : World} : ∀ (fuel : Nat) (cs : List Value) (x : DataW H × List MemPlace), DataW.trod enc Tryz.prog W 0 (fun _ => true) true fuel 30 cs = some x → ∃ v, TS W (fun b => b < W.heap.size) (encV v) cs ∧ ((∀ m ∈ x.1.weights Tryz.prog 30, m ≤ reachBytes) → SlimV v) := by
  intro fuel
  induction fuel using Nat.strongRecOn with
  | ind fuel ih =>
    intro cs x h
    have im : ∀ n, n < fuel → ∀ cs x, DataW.trod enc Tryz.prog W 0 (fun _ => true) true n 73 cs = some x → ∃ p, TS W (fun b => b < W.heap.size) (encPair p) cs ∧ ((∀ m ∈ x.1.weights Tryz.prog 73, m ≤ reachBytes) → SlimV p.2) := by
      intro n' hn' cs x h
      obtain ⟨xs, n, rfl, rfl, hl, hxl, hf⟩ := DataW.trod_struct Tryz.underlying73 h
      rw [ocMem] at hl
      obtain ⟨c0, c1, c2, c3, c4, c5, rfl⟩ := list_6 hl
      have f0 : DataW.trod enc Tryz.prog W 0 (fun _ => true) true n 9 [c0] = xs[0]? := by have h' : DataW.trod enc Tryz.prog W 0 (fun _ => true) true n 9 (([c0, c1, c2, c3, c4, c5].drop 0).take (Tryz.prog.cellsOf 9)) = xs[0]? := hf 0 _ rfl; rw [ocStr] at h'; exact h'
      have f1 : DataW.trod enc Tryz.prog W 0 (fun _ => true) true n 30 [c1, c2, c3, c4, c5] = xs[1]? := by have h' : DataW.trod enc Tryz.prog W 0 (fun _ => true) true n 30 (([c0, c1, c2, c3, c4, c5].drop 1).take (Tryz.prog.cellsOf 30)) = xs[1]? := hf 1 _ rfl; rw [ocVal] at h'; exact h'
      match xs, hxl with
      | [y0, y1], _ =>
        obtain ⟨t, e0, _, ht⟩ := DataW.trod_string Tryz.underlying9 (f0.trans rfl)
        obtain ⟨v, hv, hw⟩ := ih n (by omega) _ _ (f1.trans rfl)
        simp only [List.cons.injEq, and_true] at e0
        refine ⟨(t, v), ?_, fun hm => hw (by
          simp only [List.map_cons, List.map_nil, DataW.weights, Tryz.underlying73, DataW.weightsEach] at hm
          exact fun m h => hm m (by simp only [List.mem_append]; simp [h]))⟩
        unfold encPair
        rw [TS]
        exact ⟨c0, _, rfl, by unfold TP; exact ⟨e0, ht⟩, hv⟩
    obtain ⟨xs, n, rfl, rfl, hl, hxl, hf⟩ := DataW.trod_struct Tryz.underlying30 h
    rw [ocVal] at hl
    obtain ⟨c0, c1, c2, c3, c4, rfl⟩ := list_5 hl
    have f0 : DataW.trod enc Tryz.prog W 0 (fun _ => true) true n 3 [c0] = xs[0]? := by have h' : DataW.trod enc Tryz.prog W 0 (fun _ => true) true n 3 (([c0, c1, c2, c3, c4].drop 0).take (Tryz.prog.cellsOf 3)) = xs[0]? := hf 0 _ rfl; rw [ocInt] at h'; exact h'
    have f1 : DataW.trod enc Tryz.prog W 0 (fun _ => true) true n 2 [c1] = xs[1]? := by have h' : DataW.trod enc Tryz.prog W 0 (fun _ => true) true n 2 (([c0, c1, c2, c3, c4].drop 1).take (Tryz.prog.cellsOf 2)) = xs[1]? := hf 1 _ rfl; rw [ocI64] at h'; exact h'
    have f2 : DataW.trod enc Tryz.prog W 0 (fun _ => true) true n 9 [c2] = xs[2]? := by have h' : DataW.trod enc Tryz.prog W 0 (fun _ => true) true n 9 (([c0, c1, c2, c3, c4].drop 2).take (Tryz.prog.cellsOf 9)) = xs[2]? := hf 2 _ rfl; rw [ocStr] at h'; exact h'
    have f3 : DataW.trod enc Tryz.prog W 0 (fun _ => true) true n 27 [c3] = xs[3]? := by have h' : DataW.trod enc Tryz.prog W 0 (fun _ => true) true n 27 (([c0, c1, c2, c3, c4].drop 3).take (Tryz.prog.cellsOf 27)) = xs[3]? := hf 3 _ rfl; rw [ocSV] at h'; exact h'
    have f4 : DataW.trod enc Tryz.prog W 0 (fun _ => true) true n 28 [c4] = xs[4]? := by have h' : DataW.trod enc Tryz.prog W 0 (fun _ => true) true n 28 (([c0, c1, c2, c3, c4].drop 4).take (Tryz.prog.cellsOf 28)) = xs[4]? := hf 4 _ rfl; rw [ocSM] at h'; exact h'
    match xs, hxl with
    | [y0, y1, y2, y3, y4], _ =>
      obtain ⟨k, e0, _, _⟩ := DataW.trod_int Tryz.underlying3 (f0.trans rfl)
      obtain ⟨m, e1, _, _⟩ := DataW.trod_int Tryz.underlying2 (f1.trans rfl)
      obtain ⟨t, e2, _, ht⟩ := DataW.trod_string Tryz.underlying9 (f2.trans rfl)
      obtain ⟨l, A, c, h3, g3, h4, w3⟩ := slc_opened (f := encV) (R := fun a d => (∀ m ∈ d.weights Tryz.prog 30, m ≤ reachBytes) → SlimV a) Tryz.underlying27 ocVal obVal encV_len (by decide) (fun n' hn' => ih n' (by omega)) (f3.trans rfl)
      obtain ⟨l', A', c', h5, g5, h6, w5⟩ := slc_opened (f := encPair) (R := fun a d => (∀ m ∈ d.weights Tryz.prog 73, m ≤ reachBytes) → SlimV a.2) Tryz.underlying28 ocMem obMem (fun p => by unfold encPair; rw [TrS.len, encV_len]) (by decide) (fun n' hn' => im n' (by omega)) (f4.trans rfl)
      simp only [List.cons.injEq, and_true] at e0 e1 e2
      subst e0 e1 e2 h3 h5
      refine ⟨.mk k m t (listVL l) (listVM l'), ?_, fun hm => ?_⟩
      rotate_left
      · simp only [List.map_cons, List.map_nil, DataW.weights, Tryz.underlying30, DataW.weightsEach] at hm
        have a3 := w3 (fun m h => hm m (by simp only [List.mem_append]; simp [h]))
        have a5 := w5 (fun m h => hm m (by simp only [List.mem_append]; simp [h]))
        unfold SlimV
        rw [len_listVL, len_listVM]
        exact ⟨a3.1, a5.1, slim_listVL (fun a ha => by obtain ⟨d, h1, h2⟩ := a3.2 a ha; exact h1 h2), slim_listVM (fun a ha => by obtain ⟨d, h1, h2⟩ := a5.2 a ha; exact h1 h2)⟩
      rw [encV]
      simp only [TS, TP]
      exact ⟨_, _, rfl, ⟨rfl, trivial⟩, _, _, rfl, ⟨rfl, trivial⟩, _, _, rfl, ⟨rfl, ht⟩, _, _, rfl, ⟨A, c, by rw [encL_len, len_listVL], by rw [encL_len, len_listVL]; exact g3, by rw [enc_listVL]; exact h4⟩, _, _, rfl, ⟨A', c', by rw [encM_len, len_listVM], by rw [encM_len, len_listVM]; exact g5, by rw [enc_listVM]; exact h6⟩, rfl⟩
set_option maxRecDepth 100000 in
theorem open_pair {H : Type} {enc : TypeId × Value → H} {W : World} (fuel : Nat) (cs : List Value) (x : DataW H × List MemPlace) (h : DataW.trod enc Tryz.prog W 0 (fun _ => true) true fuel 73 cs = some x) : ∃ p, TS W (fun b => b < W.heap.size) (encPair p) cs ∧ ((∀ m ∈ x.1.weights Tryz.prog 73, m ≤ reachBytes) → SlimV p.2) := by
  obtain ⟨xs, n, rfl, rfl, hl, hxl, hf⟩ := DataW.trod_struct Tryz.underlying73 h
  rw [ocMem] at hl
  obtain ⟨c0, c1, c2, c3, c4, c5, rfl⟩ := list_6 hl
  have f0 : DataW.trod enc Tryz.prog W 0 (fun _ => true) true n 9 [c0] = xs[0]? := by have h' : DataW.trod enc Tryz.prog W 0 (fun _ => true) true n 9 (([c0, c1, c2, c3, c4, c5].drop 0).take (Tryz.prog.cellsOf 9)) = xs[0]? := hf 0 _ rfl; rw [ocStr] at h'; exact h'
  have f1 : DataW.trod enc Tryz.prog W 0 (fun _ => true) true n 30 [c1, c2, c3, c4, c5] = xs[1]? := by have h' : DataW.trod enc Tryz.prog W 0 (fun _ => true) true n 30 (([c0, c1, c2, c3, c4, c5].drop 1).take (Tryz.prog.cellsOf 30)) = xs[1]? := hf 1 _ rfl; rw [ocVal] at h'; exact h'
  match xs, hxl with
  | [y0, y1], _ =>
    obtain ⟨t, e0, _, ht⟩ := DataW.trod_string Tryz.underlying9 (f0.trans rfl)
    obtain ⟨v, hv, hw⟩ := open_vt n _ _ (f1.trans rfl)
    simp only [List.cons.injEq, and_true] at e0
    refine ⟨(t, v), ?_, fun hm => hw (by
      simp only [List.map_cons, List.map_nil, DataW.weights, Tryz.underlying73, DataW.weightsEach] at hm
      exact fun m h => hm m (by simp only [List.mem_append]; simp [h]))⟩
    unfold encPair
    rw [TS]
    exact ⟨c0, _, rfl, by unfold TP; exact ⟨e0, ht⟩, hv⟩
theorem open_str1 {H : Type} {enc : TypeId × Value → H} {W : World} (fuel : Nat) (cs : List Value) (x : DataW H × List MemPlace) (h : DataW.trod enc Tryz.prog W 0 (fun _ => true) true fuel 9 cs = some x) : ∃ s, TS W (fun b => b < W.heap.size) (encStr s) cs ∧ True := by
  obtain ⟨t, e0, _, ht⟩ := DataW.trod_string Tryz.underlying9 h
  refine ⟨t, ?_, trivial⟩
  subst e0
  simp only [encStr, TS, TP]
  exact ⟨_, _, rfl, ⟨rfl, ht⟩, rfl⟩
set_option maxRecDepth 100000 in
theorem open_par {H : Type} {enc : TypeId × Value → H} {W : World} (fuel : Nat) (cs : List Value) (x : DataW H × List MemPlace) (h : DataW.trod enc Tryz.prog W 0 (fun _ => true) true fuel 69 cs = some x) : ∃ a : VarT, TS W (fun b => b < W.heap.size) (encVar a) cs ∧ ((∀ m ∈ x.1.weights Tryz.prog 69, m ≤ reachBytes) → True) := by
  obtain ⟨xs, n, rfl, rfl, hl, hxl, hf⟩ := DataW.trod_struct Tryz.underlying69 h
  rw [ocPar] at hl
  obtain ⟨c0, c1, c2, c3, c4, c5, c6, c7, c8, c9, rfl⟩ := list_10 hl
  have f0 : DataW.trod enc Tryz.prog W 0 (fun _ => true) true n 9 [c0] = xs[0]? := by have h' : DataW.trod enc Tryz.prog W 0 (fun _ => true) true n 9 (([c0, c1, c2, c3, c4, c5, c6, c7, c8, c9].drop 0).take (Tryz.prog.cellsOf 9)) = xs[0]? := hf 0 _ rfl; rw [ocStr] at h'; exact h'
  have f1 : DataW.trod enc Tryz.prog W 0 (fun _ => true) true n 26 [c1, c2, c3] = xs[1]? := by have h' : DataW.trod enc Tryz.prog W 0 (fun _ => true) true n 26 (([c0, c1, c2, c3, c4, c5, c6, c7, c8, c9].drop 1).take (Tryz.prog.cellsOf 26)) = xs[1]? := hf 1 _ rfl; rw [ocTy] at h'; exact h'
  have f2 : DataW.trod enc Tryz.prog W 0 (fun _ => true) true n 4 [c4] = xs[2]? := by have h' : DataW.trod enc Tryz.prog W 0 (fun _ => true) true n 4 (([c0, c1, c2, c3, c4, c5, c6, c7, c8, c9].drop 4).take (Tryz.prog.cellsOf 4)) = xs[2]? := hf 2 _ rfl; rw [ocBool] at h'; exact h'
  have f3 : DataW.trod enc Tryz.prog W 0 (fun _ => true) true n 30 [c5, c6, c7, c8, c9] = xs[3]? := by have h' : DataW.trod enc Tryz.prog W 0 (fun _ => true) true n 30 (([c0, c1, c2, c3, c4, c5, c6, c7, c8, c9].drop 5).take (Tryz.prog.cellsOf 30)) = xs[3]? := hf 3 _ rfl; rw [ocVal] at h'; exact h'
  match xs, hxl with
  | [y0, y1, y2, y3], _ =>
    obtain ⟨nm, e0, hy0, ht0⟩ := DataW.trod_string Tryz.underlying9 (f0.trans rfl); simp only [List.cons.injEq, and_true] at e0; subst e0
    obtain ⟨tn, tl, tm, et0, et1, et2, htn⟩ := open_ty (f1.trans rfl); subst et0 et1 et2
    obtain ⟨has, e2, hy2⟩ := DataW.trod_bool Tryz.underlying4 (f2.trans rfl); simp only [List.cons.injEq, and_true] at e2; subst e2
    obtain ⟨v, hv, _⟩ := open_vt n _ _ (f3.trans rfl)
    refine ⟨⟨nm, tn, tl, tm, has, v⟩, ?_, fun hm => ?_⟩
    · unfold encVar
      rw [TS]; refine ⟨_, _, rfl, by unfold TP; exact ⟨rfl, ht0⟩, ?_⟩
      rw [TS]; refine ⟨_, _, rfl, by unfold TP; exact ⟨rfl, htn⟩, ?_⟩
      rw [TS]; refine ⟨_, _, rfl, by unfold TP; exact ⟨rfl, trivial⟩, ?_⟩
      rw [TS]; refine ⟨_, _, rfl, by unfold TP; exact ⟨rfl, trivial⟩, ?_⟩
      rw [TS]; exact ⟨_, _, rfl, by unfold TP; exact ⟨rfl, trivial⟩, hv⟩
    · trivial
theorem open_parT {H : Type} {enc : TypeId × Value → H} {W : World} (fuel : Nat) (cs : List Value) (x : DataW H × List MemPlace) (h : DataW.trod enc Tryz.prog W 0 (fun _ => true) true fuel 69 cs = some x) : ∃ a : VarT, TS W (fun b => b < W.heap.size) (encVar a) cs ∧ True := by
  obtain ⟨a, h1, _⟩ := open_par fuel cs x h
  exact ⟨a, h1, trivial⟩
set_option maxRecDepth 100000 in
theorem open_dir {H : Type} {enc : TypeId × Value → H} {W : World} (fuel : Nat) (cs : List Value) (x : DataW H × List MemPlace) (h : DataW.trod enc Tryz.prog W 0 (fun _ => true) true fuel 98 cs = some x) : ∃ a : DirT, TS W (fun b => b < W.heap.size) (encD a) cs ∧ ((∀ m ∈ x.1.weights Tryz.prog 98, m ≤ reachBytes) → a.2.len * 96 ≤ 140737488355328 ∧ SlimM a.2) := by
  obtain ⟨xs, n, rfl, rfl, hl, hxl, hf⟩ := DataW.trod_struct Tryz.underlying98 h
  rw [ocDir] at hl
  obtain ⟨c0, c1, rfl⟩ := list_2 hl
  have f0 : DataW.trod enc Tryz.prog W 0 (fun _ => true) true n 9 [c0] = xs[0]? := by have h' : DataW.trod enc Tryz.prog W 0 (fun _ => true) true n 9 (([c0, c1].drop 0).take (Tryz.prog.cellsOf 9)) = xs[0]? := hf 0 _ rfl; rw [ocStr] at h'; exact h'
  have f1 : DataW.trod enc Tryz.prog W 0 (fun _ => true) true n 28 [c1] = xs[1]? := by have h' : DataW.trod enc Tryz.prog W 0 (fun _ => true) true n 28 (([c0, c1].drop 1).take (Tryz.prog.cellsOf 28)) = xs[1]? := hf 1 _ rfl; rw [ocSM] at h'; exact h'
  match xs, hxl with
  | [y0, y1], _ =>
    obtain ⟨nm, e0, hy0, ht0⟩ := DataW.trod_string Tryz.underlying9 (f0.trans rfl); simp only [List.cons.injEq, and_true] at e0; subst e0
    obtain ⟨l, A1, k1, e1, g1, r1, w1⟩ := slc_opened (f := encPair) (R := fun a d => (∀ m ∈ d.weights Tryz.prog 73, m ≤ reachBytes) → SlimV a.2) Tryz.underlying28 ocMem obMem (fun p => by unfold encPair; rw [TrS.len, encV_len]) (by decide) (fun n' _ => open_pair n') (f1.trans rfl); subst e1
    refine ⟨(nm, listVM l), ?_, fun hm => ?_⟩
    · unfold encD
      simp only [TS, TP]
      exact ⟨_, _, rfl, ⟨rfl, ht0⟩, _, _, rfl, ⟨A1, k1, by rw [encM_len, len_listVM], by rw [encM_len, len_listVM]; exact g1, by rw [enc_listVM]; exact r1⟩, rfl⟩
    · simp only [List.map_cons, List.map_nil, DataW.weights, Tryz.underlying98, DataW.weightsEach] at hm
      rw [len_listVM]
      have a1 := w1 (fun m h => hm m (by simp only [List.mem_append]; simp [h]))
      exact ⟨a1.1, slim_listVM (fun a ha => by obtain ⟨d, h1, h2⟩ := a1.2 a ha; exact h1 h2)⟩
set_option maxRecDepth 100000 in
theorem open_fld {H : Type} {enc : TypeId × Value → H} {W : World} (fuel : Nat) (cs : List Value) (x : DataW H × List MemPlace) (h : DataW.trod enc Tryz.prog W 0 (fun _ => true) true fuel 84 cs = some x) : ∃ a : FieldT, TS W (fun b => b < W.heap.size) (encField a) cs ∧ ((∀ m ∈ x.1.weights Tryz.prog 84, m ≤ reachBytes) → SlimF a ∧ DeepF a) := by
  obtain ⟨xs, n, rfl, rfl, hl, hxl, hf⟩ := DataW.trod_struct Tryz.underlying84 h
  rw [ocFld] at hl
  obtain ⟨c0, c1, c2, c3, c4, c5, rfl⟩ := list_6 hl
  have f0 : DataW.trod enc Tryz.prog W 0 (fun _ => true) true n 9 [c0] = xs[0]? := by have h' : DataW.trod enc Tryz.prog W 0 (fun _ => true) true n 9 (([c0, c1, c2, c3, c4, c5].drop 0).take (Tryz.prog.cellsOf 9)) = xs[0]? := hf 0 _ rfl; rw [ocStr] at h'; exact h'
  have f1 : DataW.trod enc Tryz.prog W 0 (fun _ => true) true n 63 [c1] = xs[1]? := by have h' : DataW.trod enc Tryz.prog W 0 (fun _ => true) true n 63 (([c0, c1, c2, c3, c4, c5].drop 1).take (Tryz.prog.cellsOf 63)) = xs[1]? := hf 1 _ rfl; rw [ocSP] at h'; exact h'
  have f2 : DataW.trod enc Tryz.prog W 0 (fun _ => true) true n 26 [c2, c3, c4] = xs[2]? := by have h' : DataW.trod enc Tryz.prog W 0 (fun _ => true) true n 26 (([c0, c1, c2, c3, c4, c5].drop 2).take (Tryz.prog.cellsOf 26)) = xs[2]? := hf 2 _ rfl; rw [ocTy] at h'; exact h'
  have f3 : DataW.trod enc Tryz.prog W 0 (fun _ => true) true n 82 [c5] = xs[3]? := by have h' : DataW.trod enc Tryz.prog W 0 (fun _ => true) true n 82 (([c0, c1, c2, c3, c4, c5].drop 5).take (Tryz.prog.cellsOf 82)) = xs[3]? := hf 3 _ rfl; rw [ocSD] at h'; exact h'
  match xs, hxl with
  | [y0, y1, y2, y3], _ =>
    obtain ⟨nm, e0, hy0, ht0⟩ := DataW.trod_string Tryz.underlying9 (f0.trans rfl); simp only [List.cons.injEq, and_true] at e0; subst e0
    obtain ⟨ps, A1, k1, e1, g1, r1, w1⟩ := slc_opened (f := encVar) (R := fun _ _ => True) Tryz.underlying63 ocPar obPar (fun x => by unfold encVar; simp only [TrS.len, encV_len]) (by decide) (fun n' _ => open_parT n') (f1.trans rfl); subst e1
    obtain ⟨tn, tl, tm, et0, et1, et2, htn⟩ := open_ty (f2.trans rfl); subst et0 et1 et2
    obtain ⟨ds, A3, k3, e3, g3, r3, w3⟩ := slc_opened (f := encD) (R := fun a d => (∀ m ∈ d.weights Tryz.prog 98, m ≤ reachBytes) → a.2.len * 96 ≤ 140737488355328 ∧ SlimM a.2) Tryz.underlying82 ocDir obDir (fun _ => rfl) (by decide) (fun n' _ => open_dir n') (f3.trans rfl); subst e3
    refine ⟨⟨nm, ps, tn, tl, tm, ds⟩, ?_, fun hm => ?_⟩
    · unfold encField
      simp only [TS, TP]
      exact ⟨_, _, rfl, ⟨rfl, ht0⟩, _, _, rfl, ⟨A1, k1, by rw [rowOf_len], by rw [rowOf_len]; exact g1, r1⟩, _, _, rfl, ⟨rfl, htn⟩, _, _, rfl, ⟨rfl, trivial⟩, _, _, rfl, ⟨rfl, trivial⟩, _, _, rfl, ⟨A3, k3, by rw [rowOf_len], by rw [rowOf_len]; exact g3, r3⟩, rfl⟩
    · simp only [List.map_cons, List.map_nil, DataW.weights, Tryz.underlying84, DataW.weightsEach] at hm
      have a1 := w1 (fun m h => hm m (by simp only [List.mem_append]; simp [h]))
      have a3 := w3 (fun m h => hm m (by simp only [List.mem_append]; simp [h]))
      exact ⟨⟨a1.1, a3.1, fun x hx => by obtain ⟨d, h1, h2⟩ := a3.2 x hx; exact (h1 h2).1⟩, fun x hx => by obtain ⟨d, h1, h2⟩ := a3.2 x hx; exact (h1 h2).2⟩
set_option maxRecDepth 100000 in
theorem open_dfn {H : Type} {enc : TypeId × Value → H} {W : World} (fuel : Nat) (cs : List Value) (x : DataW H × List MemPlace) (h : DataW.trod enc Tryz.prog W 0 (fun _ => true) true fuel 65 cs = some x) : ∃ a : DefnT, TS W (fun b => b < W.heap.size) (encDefn a) cs ∧ ((∀ m ∈ x.1.weights Tryz.prog 65, m ≤ reachBytes) → SlimD a ∧ DeepD a) := by
  obtain ⟨xs, n, rfl, rfl, hl, hxl, hf⟩ := DataW.trod_struct Tryz.underlying65 h
  rw [ocDef] at hl
  obtain ⟨c0, c1, c2, c3, c4, c5, rfl⟩ := list_6 hl
  have f0 : DataW.trod enc Tryz.prog W 0 (fun _ => true) true n 3 [c0] = xs[0]? := by have h' : DataW.trod enc Tryz.prog W 0 (fun _ => true) true n 3 (([c0, c1, c2, c3, c4, c5].drop 0).take (Tryz.prog.cellsOf 3)) = xs[0]? := hf 0 _ rfl; rw [ocInt] at h'; exact h'
  have f1 : DataW.trod enc Tryz.prog W 0 (fun _ => true) true n 9 [c1] = xs[1]? := by have h' : DataW.trod enc Tryz.prog W 0 (fun _ => true) true n 9 (([c0, c1, c2, c3, c4, c5].drop 1).take (Tryz.prog.cellsOf 9)) = xs[1]? := hf 1 _ rfl; rw [ocStr] at h'; exact h'
  have f2 : DataW.trod enc Tryz.prog W 0 (fun _ => true) true n 38 [c2] = xs[2]? := by have h' : DataW.trod enc Tryz.prog W 0 (fun _ => true) true n 38 (([c0, c1, c2, c3, c4, c5].drop 2).take (Tryz.prog.cellsOf 38)) = xs[2]? := hf 2 _ rfl; rw [ocSS] at h'; exact h'
  have f3 : DataW.trod enc Tryz.prog W 0 (fun _ => true) true n 62 [c3] = xs[3]? := by have h' : DataW.trod enc Tryz.prog W 0 (fun _ => true) true n 62 (([c0, c1, c2, c3, c4, c5].drop 3).take (Tryz.prog.cellsOf 62)) = xs[3]? := hf 3 _ rfl; rw [ocSF] at h'; exact h'
  have f4 : DataW.trod enc Tryz.prog W 0 (fun _ => true) true n 38 [c4] = xs[4]? := by have h' : DataW.trod enc Tryz.prog W 0 (fun _ => true) true n 38 (([c0, c1, c2, c3, c4, c5].drop 4).take (Tryz.prog.cellsOf 38)) = xs[4]? := hf 4 _ rfl; rw [ocSS] at h'; exact h'
  have f5 : DataW.trod enc Tryz.prog W 0 (fun _ => true) true n 63 [c5] = xs[5]? := by have h' : DataW.trod enc Tryz.prog W 0 (fun _ => true) true n 63 (([c0, c1, c2, c3, c4, c5].drop 5).take (Tryz.prog.cellsOf 63)) = xs[5]? := hf 5 _ rfl; rw [ocSP] at h'; exact h'
  match xs, hxl with
  | [y0, y1, y2, y3, y4, y5], _ =>
    obtain ⟨kd, e0, hy0, _⟩ := DataW.trod_int Tryz.underlying3 (f0.trans rfl); simp only [List.cons.injEq, and_true] at e0; subst e0
    obtain ⟨nm, e1, hy1, ht1⟩ := DataW.trod_string Tryz.underlying9 (f1.trans rfl); simp only [List.cons.injEq, and_true] at e1; subst e1
    obtain ⟨fs, A2, k2, e2, g2, r2, w2⟩ := slc_opened (f := encStr) (R := fun _ _ => True) Tryz.underlying38 ocStr obStr (fun _ => rfl) (by decide) (fun n' _ => (fun n cs x h => open_str1 n cs x h) n') (f2.trans rfl); subst e2
    obtain ⟨fl, A3, k3, e3, g3, r3, w3⟩ := slc_opened (f := encField) (R := fun a d => (∀ m ∈ d.weights Tryz.prog 84, m ≤ reachBytes) → SlimF a ∧ DeepF a) Tryz.underlying62 ocFld obFld (fun _ => rfl) (by decide) (fun n' _ => open_fld n') (f3.trans rfl); subst e3
    obtain ⟨pt, A4, k4, e4, g4, r4, w4⟩ := slc_opened (f := encStr) (R := fun _ _ => True) Tryz.underlying38 ocStr obStr (fun _ => rfl) (by decide) (fun n' _ => (fun n cs x h => open_str1 n cs x h) n') (f4.trans rfl); subst e4
    obtain ⟨pm, A5, k5, e5, g5, r5, w5⟩ := slc_opened (f := encVar) (R := fun _ _ => True) Tryz.underlying63 ocPar obPar (fun x => by unfold encVar; simp only [TrS.len, encV_len]) (by decide) (fun n' _ => open_parT n') (f5.trans rfl); subst e5
    refine ⟨⟨kd, nm, fs, fl, pt, pm⟩, ?_, fun hm => ?_⟩
    · unfold encDefn
      simp only [TS, TP]
      exact ⟨_, _, rfl, ⟨rfl, trivial⟩, _, _, rfl, ⟨rfl, ht1⟩, _, _, rfl, ⟨A2, k2, by rw [rowOf_len], by rw [rowOf_len]; exact g2, r2⟩, _, _, rfl, ⟨A3, k3, by rw [rowOf_len], by rw [rowOf_len]; exact g3, r3⟩, _, _, rfl, ⟨A4, k4, by rw [rowOf_len], by rw [rowOf_len]; exact g4, r4⟩, _, _, rfl, ⟨A5, k5, by rw [rowOf_len], by rw [rowOf_len]; exact g5, r5⟩, rfl⟩
    · simp only [List.map_cons, List.map_nil, DataW.weights, Tryz.underlying65, DataW.weightsEach] at hm
      have a2 := w2 (fun m h => hm m (by simp only [List.mem_append]; simp [h]))
      have a3 := w3 (fun m h => hm m (by simp only [List.mem_append]; simp [h]))
      have a4 := w4 (fun m h => hm m (by simp only [List.mem_append]; simp [h]))
      have a5 := w5 (fun m h => hm m (by simp only [List.mem_append]; simp [h]))
      exact ⟨⟨a2.1, a3.1, a4.1, a5.1, fun x hx => by obtain ⟨d, h1, h2⟩ := a3.2 x hx; exact (h1 h2).1⟩, fun x hx => by obtain ⟨d, h1, h2⟩ := a3.2 x hx; exact (h1 h2).2⟩
set_option maxRecDepth 100000 in
theorem open_sch {H : Type} {enc : TypeId × Value → H} {W : World} (fuel : Nat) (cs : List Value) (x : DataW H × List MemPlace) (h : DataW.trod enc Tryz.prog W 0 (fun _ => true) true fuel 24 cs = some x) : ∃ a : SchT, TS W (fun b => b < W.heap.size) (encSch a) cs ∧ ((∀ m ∈ x.1.weights Tryz.prog 24, m ≤ reachBytes) → SlimS a ∧ DeepS a) := by
  obtain ⟨xs, n, rfl, rfl, hl, hxl, hf⟩ := DataW.trod_struct Tryz.underlying24 h
  rw [ocSch] at hl
  obtain ⟨c0, c1, c2, rfl⟩ := list_3 hl
  have f0 : DataW.trod enc Tryz.prog W 0 (fun _ => true) true n 22 [c0] = xs[0]? := by have h' : DataW.trod enc Tryz.prog W 0 (fun _ => true) true n 22 (([c0, c1, c2].drop 0).take (Tryz.prog.cellsOf 22)) = xs[0]? := hf 0 _ rfl; rw [ocSDf] at h'; exact h'
  have f1 : DataW.trod enc Tryz.prog W 0 (fun _ => true) true n 9 [c1] = xs[1]? := by have h' : DataW.trod enc Tryz.prog W 0 (fun _ => true) true n 9 (([c0, c1, c2].drop 1).take (Tryz.prog.cellsOf 9)) = xs[1]? := hf 1 _ rfl; rw [ocStr] at h'; exact h'
  have f2 : DataW.trod enc Tryz.prog W 0 (fun _ => true) true n 9 [c2] = xs[2]? := by have h' : DataW.trod enc Tryz.prog W 0 (fun _ => true) true n 9 (([c0, c1, c2].drop 2).take (Tryz.prog.cellsOf 9)) = xs[2]? := hf 2 _ rfl; rw [ocStr] at h'; exact h'
  match xs, hxl with
  | [y0, y1, y2], _ =>
    obtain ⟨l, A0, k0, e0, g0, r0, w0⟩ := slc_opened (f := encDefn) (R := fun a d => (∀ m ∈ d.weights Tryz.prog 65, m ≤ reachBytes) → SlimD a ∧ DeepD a) Tryz.underlying22 ocDef obDef (fun _ => rfl) (by decide) (fun n' _ => open_dfn n') (f0.trans rfl); subst e0
    obtain ⟨q, e1, hy1, ht1⟩ := DataW.trod_string Tryz.underlying9 (f1.trans rfl); simp only [List.cons.injEq, and_true] at e1; subst e1
    obtain ⟨mu, e2, hy2, ht2⟩ := DataW.trod_string Tryz.underlying9 (f2.trans rfl); simp only [List.cons.injEq, and_true] at e2; subst e2
    refine ⟨⟨l, q, mu⟩, ?_, fun hm => ?_⟩
    · unfold encSch
      simp only [TS, TP]
      exact ⟨_, _, rfl, ⟨A0, k0, by rw [rowOf_len], by rw [rowOf_len]; exact g0, r0⟩, _, _, rfl, ⟨rfl, ht1⟩, _, _, rfl, ⟨rfl, ht2⟩, rfl⟩
    · simp only [List.map_cons, List.map_nil, DataW.weights, Tryz.underlying24, DataW.weightsEach] at hm
      have a0 := w0 (fun m h => hm m (by simp only [List.mem_append]; simp [h]))
      exact ⟨⟨a0.1, fun x hx => by obtain ⟨d, h1, h2⟩ := a0.2 x hx; exact (h1 h2).1⟩, fun x hx => by obtain ⟨d, h1, h2⟩ := a0.2 x hx; exact (h1 h2).2⟩
set_option maxRecDepth 100000 in
theorem open_schemaD {H : Type} {enc : TypeId × Value → H} {W : World} {base : Nat} {v : Value} {d : DataW H} {ps : List MemPlace} (hval : Value.okWide Tryz.prog W .any base 24 v) (hd : DataW.Trod enc Tryz.prog W 0 (fun _ => true) true 24 v d ps) :
    ∃ S c0 c1 c2, v = .agg #[c0, c1, c2] ∧ TS W (fun b => b < W.heap.size) (encSch S) [c0, c1, c2] ∧ ((∀ m ∈ d.weights Tryz.prog 24, m ≤ reachBytes) → SlimS S ∧ DeepS S) := by
  obtain ⟨cs, rfl, hsz⟩ := okWide_struct Tryz.underlying24 hval
  obtain ⟨fuel, hf⟩ := hd
  obtain ⟨S, h1, h2⟩ := open_sch fuel _ _ hf
  obtain ⟨L⟩ := cs
  rw [ocSch] at hsz
  match L, hsz with
  | [a, b, c], _ => exact ⟨S, a, b, c, rfl, h1, h2⟩
set_option maxRecDepth 100000 in
theorem open_schema {H : Type} {enc : TypeId × Value → H} {W : World} {base : Nat} {v : Value} {d : DataW H} {ps : List MemPlace} (hval : Value.okWide Tryz.prog W .any base 24 v) (hd : DataW.Trod enc Tryz.prog W 0 (fun _ => true) true 24 v d ps) :
    ∃ S c0 c1 c2, v = .agg #[c0, c1, c2] ∧ TS W (fun b => b < W.heap.size) (encSch S) [c0, c1, c2] ∧ ((∀ m ∈ d.weights Tryz.prog 24, m ≤ reachBytes) → SlimS S) := by
  obtain ⟨S, a, b, c, h0, h1, h2⟩ := open_schemaD hval hd
  exact ⟨S, a, b, c, h0, h1, fun h => (h2 h).1⟩
end Go.Proofs.YtcfdfgbobnocnaaGreatDoor
