/- The walk of the document's own ReadType; both readers answer alike. -/
import Derived.Test.YtfinboplkjijhaaWReadW
namespace Go.Proofs.Ytfinboplkjijhaa
open Go.RowKit

theorem tw_next {p : UInt8 → Bool} : ∀ {l : List UInt8} {k : Nat} {b : UInt8}, k ≤ (l.takeWhile p).length → l[k]? = some b → p b = true → k + 1 ≤ (l.takeWhile p).length := by
  intro l
  induction l with
  | nil => intro k b _ h; simp at h
  | cons x t ih =>
    intro k b hk h hb
    cases k with
    | zero => simp at h; subst h; simp [hb]
    | succ k =>
      cases hx : p x with
      | false => simp [hx] at hk
      | true =>
        simp only [List.takeWhile_cons, hx, if_true, List.length_cons] at hk ⊢
        have := ih (k := k) (b := b) (by omega) (by simpa using h) hb
        omega
theorem tw_stop {p : UInt8 → Bool} : ∀ {l : List UInt8} {k : Nat} {b : UInt8}, k ≤ (l.takeWhile p).length → l[k]? = some b → p b = false → (l.takeWhile p).length = k := by
  intro l
  induction l with
  | nil => intro k b _ h; simp at h
  | cons x t ih =>
    intro k b hk h hb
    cases k with
    | zero => simp at h; subst h; simp [hb]
    | succ k =>
      cases hx : p x with
      | false => simp [hx] at hk
      | true =>
        simp only [List.takeWhile_cons, hx, if_true, List.length_cons] at hk ⊢
        have := ih (k := k) (b := b) (by omega) (by simpa using h) hb
        omega
theorem tw_end {p : UInt8 → Bool} {l : List UInt8} {k : Nat} (h : k ≤ (l.takeWhile p).length) (hk : l.length ≤ k) : (l.takeWhile p).length = k := by
  have : (l.takeWhile p).length ≤ l.length := (List.takeWhile_sublist p).length_le
  omega
theorem data_at (s : ByteArray) (k : Nat) (h : k < s.size) : s.data.toList[k]? = some s[k] := by
  rw [List.getElem?_eq_getElem (by rw [len_data]; exact h)]; rfl
theorem drop_at (s : ByteArray) (k : Nat) (h : k < s.size) : s.data.toList.drop k = s[k] :: s.data.toList.drop (k + 1) := by
  have hl : k < s.data.toList.length := by rw [len_data]; exact h
  rw [List.drop_eq_getElem_cons hl]
  rfl
theorem drop_all (s : ByteArray) (k : Nat) (h : s.size ≤ k) : s.data.toList.drop k = [] := List.drop_eq_nil_of_le (by rw [len_data]; exact h)
theorem parB_step (a k q : Nat) (r : List UInt8) : parB a (k + 1) q r = if k < a ∧ r.head? ≠ some 93 then none else (if (if k < a then r.tail else r).head? = some 33 then parB a k (q ||| 2 ^ k) (if k < a then r.tail else r).tail else parB a k q (if k < a then r.tail else r)) := rfl
def optV (o : Option Nat) (n : ByteArray) (l : Nat) : Value := match o with | some m => yesT n l m | none => noT
/-- What the document's own reader answers. -/
def refV (s : List UInt8) : Value := if opens s ≤ 4 ∧ nameB ((s.drop (opens s)).take (nameLen (s.drop (opens s)))) = true then optV (parB (opens s) (opens s + 1) 0 ((s.drop (opens s)).drop (nameLen (s.drop (opens s))))) ⟨((s.drop (opens s)).take (nameLen (s.drop (opens s)))).toArray⟩ (opens s) else noT
theorem ext_mid (s : ByteArray) (a c : Nat) : (s.extract a (a + c)).data.toList = (s.data.toList.drop a).take c := by
  simp [ByteArray.data_extract, Array.toList_extract, List.extract]
theorem isT_right {s n : List UInt8} {l m : Nat} (h : IsT s n l m) : rightT n l m = true := right_nat h.1 h.2.1 h.2.2.1
theorem readV_yes {s n : List UInt8} {l m : Nat} (h : IsT s n l m) : readV (rdB 5 0 0 s) = yesT ⟨n.toArray⟩ l m := by
  rw [read_back h, readV]; simp [isT_right h]
theorem readV_no {s : List UInt8} (h : ¬ ∃ n l m, IsT s n l m) : readV (rdB 5 0 0 s) = noT := by
  obtain ⟨n, l, m, hr⟩ : ∃ n l m, rdB 5 0 0 s = (n, l, m) := ⟨_, _, _, rfl⟩
  rw [hr, readV]
  by_cases hn : rightT n l m = true
  · exact absurd ⟨n, l, m, rd_isT hr (right_true hn).1⟩ h
  · simp [hn]
theorem refV_yes {s n : List UInt8} {l m : Nat} (h : IsT s n l m) : refV s = yesT ⟨n.toArray⟩ l m := by
  obtain ⟨h1, h2, h3, h4⟩ := isT_parts h
  rw [refV, h1, h2, h3, h4, if_pos ⟨h.2.1, h.1⟩]; rfl
theorem refV_no {s : List UInt8} (h : ¬ ∃ n l m, IsT s n l m) : refV s = noT := by
  rw [refV]
  split
  · rename_i hc
    cases hp : parB (opens s) (opens s + 1) 0 ((s.drop (opens s)).drop (nameLen (s.drop (opens s)))) with
    | none => rfl
    | some m => exact absurd ⟨_, _, m, parts_isT rfl rfl hc.1 hc.2 hp⟩ h
  · rfl
theorem both_read (s : List UInt8) : refV s = readV (rdB 5 0 0 s) := by
  by_cases h : ∃ n l m, IsT s n l m
  · obtain ⟨n, l, m, h⟩ := h
    rw [readV_yes h, refV_yes h]
  · rw [readV_no h, refV_no h]
theorem three_same {w : World} {b : Nat} {x y z : Value} (h : w.heap[b]? = some (.cells #[x, y, z] 23 (0, 0))) : (((w.setCell ⟨b, 0, none⟩ x).setCell ⟨b, 1, none⟩ y).setCell ⟨b, 2, none⟩ z).heap[b]? = some (.cells #[x, y, z] 23 (0, 0)) := ty_set h

theorem ne_byte {a : UInt8} {n : Nat} (hn : n < 256) (h : a ≠ UInt8.ofNat n) : ((a.toNat : Int) == (n : Int)) = false := by
  have : a.toNat ≠ n := fun e => h (UInt8.toNat_inj.1 (by rw [e, UInt8.toNat_ofNat']; omega))
  simp; omega
theorem head_at (s : ByteArray) (i : Nat) (h : i < s.size) : (s.data.toList.drop i).head? = some s[i] := by rw [drop_at s i h]; rfl
theorem tail_at (s : ByteArray) (i : Nat) : (s.data.toList.drop i).tail = s.data.toList.drop (i + 1) := by simp
theorem par_in_none {l k q : Nat} {r : List UInt8} (hk : k < l) (h : r.head? ≠ some 93) : parB l (k + 1) q r = none := by rw [parB_step, if_pos ⟨hk, h⟩]
theorem par_in {l k q : Nat} {s : ByteArray} {i : Nat} (hk : k < l) (hi : i < s.size) (h : s[i] = 93) : parB l (k + 1) q (s.data.toList.drop i) = if (s.data.toList.drop (i + 1)).head? = some 33 then parB l k (q ||| 2 ^ k) (s.data.toList.drop (i + 2)) else parB l k q (s.data.toList.drop (i + 1)) := by
  rw [parB_step, if_neg (by rw [head_at s i hi, h]; simp), if_pos hk, tail_at, tail_at]
theorem par_out {l q : Nat} {s : ByteArray} {i : Nat} : parB l (l + 1) q (s.data.toList.drop i) = if (s.data.toList.drop i).head? = some 33 then parB l l (q ||| 2 ^ l) (s.data.toList.drop (i + 1)) else parB l l q (s.data.toList.drop i) := by
  rw [parB_step, if_neg (by simp), if_neg (Nat.lt_irrefl l), tail_at]
theorem head_end (s : ByteArray) (i : Nat) (h : s.size ≤ i) : (s.data.toList.drop i).head? ≠ some 33 ∧ (s.data.toList.drop i).head? ≠ some 93 := by rw [drop_all s i h]; simp

abbrev zO : Obj := .cells #[.string ⟨#[]⟩, .int .i64 0, .int .i64 0] 23
set_option maxRecDepth 100000 in
set_option maxHeartbeats 4000000 in
theorem rread_any (s : ByteArray) (w : World) (hs : s.size ≤ 9000) : Calls Try.prog 14 #[.string s] w fun e w' => e = .returned (refV s.data.toList) ∧ Below w.heap.size w w' := by
  obtain ⟨h0, h1⟩ := new_two w zO zO
  have HB0 := Lib.hid (below_new.trans ((below_new' (w.alloc zO) zO).mono (by simp)) : Below w.heap.size w _)
  have H0 := Lib.hid h0
  have H1 := Lib.hid h1
  clear h0 h1
  go_enter Try.func14, Try.ntmps14
  go_upto_block 0 with (fail)
  go_cut [] (fun wx => wx.heap[w.heap.size]? = some (.cells #[.string ⟨#[]⟩, .int .i64 0, .int .i64 0] 23 (0, 0)) ∧ wx.heap[w.heap.size + 1]? = some (.cells #[.string ⟨#[]⟩, .int .i64 (opens s.data.toList), .int .i64 0] 23 (0, 0)) ∧ Below w.heap.size w wx)
  case first =>
    go_wp2_with fail
    go_loopg [] s.size (fun g wx => ∃ k : Nat, k + g = s.size ∧ wx.heap[w.heap.size]? = some (.cells #[.string ⟨#[]⟩, .int .i64 0, .int .i64 0] 23 (0, 0)) ∧ wx.heap[w.heap.size + 1]? = some (.cells #[.string ⟨#[]⟩, .int .i64 k, .int .i64 0] 23 (0, 0)) ∧ Below w.heap.size w wx ∧ Aside (k ≤ opens s.data.toList))
    case atStart => exact ⟨0, by omega, H0.out, H1.out, HB0.out, Aside.intro (Nat.zero_le _)⟩
    case round =>
      obtain ⟨k, hk, b0, b1, hb, H⟩ := hrel
      obtain ⟨c0, c1, c2, f0, f1, f2⟩ := ty_cells b1
      have hk0 : (0 : Int) ≤ (k : Int) := by omega
      have B0 := Lib.hid b0
      have B1 := Lib.hid b1
      have HB := Lib.hid hb
      clear b0 b1 hb
      cases gk with
      | zero =>
        have hO := Lib.hid (tw_end H.out (by rw [len_data]; omega))
        have hge : ¬ (k : Int) < (s.size : Int) := by omega
        clear H
        go_wp2_with fail
        go_meet
        exact ⟨B0.out, by rw [show opens s.data.toList = k from hO.out]; exact B1.out, HB.out⟩
      | succ g =>
        have hlt : k < s.size := by omega
        have hlt' : (k : Int) < (s.size : Int) := by omega
        by_cases c : s[k] = 91
        · have e1 : ((s[k].toNat : Int) == 91) = true := by rw [c]; rfl
          have hN := Lib.hid (tw_next H.out (data_at s k hlt) (by rw [c]; rfl))
          clear H c
          go_wp2_with fail
          go_roundg g
          case measure => omega
          case rel => exact ⟨k + 1, by omega, set_other B0.out (by omega), set_1 B1.out, HB.out.setCell (Nat.le_succ _) _, Aside.intro hN.out⟩
        · have e1 : ((s[k].toNat : Int) == 91) = false := by
            have : s[k].toNat ≠ 91 := fun h => c (UInt8.toNat_inj.1 h)
            simp; omega
          have hO := Lib.hid (tw_stop H.out (data_at s k hlt) (by simpa using c))
          clear H c
          go_wp2_with fail
          go_meet
          exact ⟨B0.out, by rw [show opens s.data.toList = k from hO.out]; exact B1.out, HB.out⟩
  case rest =>
    obtain ⟨b0, b1, hb⟩ := hcut
    have hle : opens s.data.toList ≤ s.size := by
      have := (List.takeWhile_sublist (p := fun b : UInt8 => b == 91) (l := s.data.toList)).length_le
      rw [len_data] at this
      exact this
    have HV : Hid (refV s.data.toList = refV s.data.toList) := Lib.hid rfl
    obtain ⟨l, hl⟩ : ∃ l, opens s.data.toList = l := ⟨_, rfl⟩
    rw [hl] at b1 hle
    obtain ⟨c, hc⟩ : ∃ c, nameLen (s.data.toList.drop l) = c := ⟨_, rfl⟩
    have hcle : l + c ≤ s.size := by
      have := (List.takeWhile_sublist (p := partU) (l := s.data.toList.drop l)).length_le
      rw [List.length_drop, len_data] at this
      have h2 : c ≤ s.size - l := by rw [← hc]; exact this
      omega
    obtain ⟨n, hn⟩ : ∃ n, s.extract l (l + c) = n := ⟨_, rfl⟩
    have hnd : n.data.toList = (s.data.toList.drop l).take c := by rw [← hn]; exact ext_mid s l c
    have hRV : Hid (refV s.data.toList = if l ≤ 4 ∧ nameB n.data.toList = true then optV (parB l (l + 1) 0 (s.data.toList.drop (l + c))) n l else noT) := Lib.hid (by
      rw [refV, hl, hc, ← hnd, List.drop_drop, mk_of rfl])
    have hns : n.size ≤ 9000 := by rw [← len_data, hnd, List.length_take, List.length_drop, len_data]; omega
    obtain ⟨E, hEE⟩ : ∃ E, l + c = E := ⟨_, rfl⟩
    rw [hEE] at hRV hn hcle
    have hC := Lib.hid hc
    have hEx := Lib.hid hn
    have hLC := Lib.hid hEE
    have hlE : l ≤ E := by omega
    obtain ⟨a0, a1, a2, g0, g1, g2⟩ := ty_cells b0
    obtain ⟨c0, c1, c2, f0, f1, f2⟩ := ty_cells b1
    have B0 := Lib.hid b0
    have B1 := Lib.hid b1
    have HB := Lib.hid hb
    clear b0 b1 hb HB0 H0 H1 hl hc hnd HV hn hEE
    go_upto_block 2 with (fail)
    go_cut [5] (fun iv wx => iv = .int .i64 (E : Int) ∧ wc = wx)
    case first =>
      go_wp2_with fail
      go_loopg [5] (s.size - l) (fun g iv wx => ∃ k : Nat, k + g = s.size - l ∧ iv = .int .i64 ((l + k : Nat) : Int) ∧ Aside (k ≤ nameLen (s.data.toList.drop l)) ∧ wc = wx)
      case atStart => exact ⟨0, by omega, rfl, Aside.intro (Nat.zero_le _), rfl⟩
      case round =>
        obtain ⟨k, hk, rfl, H, rfl⟩ := hrel
        obtain ⟨i, hi⟩ : ∃ i, l + k = i := ⟨_, rfl⟩
        rw [hi]
        have hi0 : (0 : Int) ≤ (i : Int) := by omega
        cases gk with
        | zero =>
          have hO := Lib.hid (tw_end H.out (by rw [List.length_drop, len_data]; omega))
          have hge : ¬ (i : Int) < (s.size : Int) := by omega
          have he : Hid (i = E) := Lib.hid (by have := hLC.out; have := hO.out; have h2 := hC.out; unfold nameLen at h2; omega)
          clear H hO
          go_wp2_with fail
          go_meet
          exact ⟨by rw [he.out], rfl⟩
        | succ g =>
          have hlt : i < s.size := by omega
          have hlt' : (i : Int) < (s.size : Int) := by omega
          have hat : (s.data.toList.drop l)[k]? = some s[i] := by rw [List.getElem?_drop, hi]; exact data_at s i hlt
          cases hp : letB (s[i].toNat : Int)
          · cases hd : digB (s[i].toNat : Int)
            · have he : Hid (i = E) := Lib.hid (by have := hLC.out; have := tw_stop H.out hat (by simp [partU, hp, hd]); have h2 := hC.out; unfold nameLen at h2; omega)
              clear H hat
              have HP := Lib.hid hp
              have HD := Lib.hid hd
              clear hp hd
              go_wp2_with fail
              refine (start_any _ _).mono ?_
              rintro e w2 ⟨rfl, rfl⟩
              rw [HP.out]
              go_wp2_with fail
              refine (rdigit_any _ _).mono ?_
              rintro e w2 ⟨rfl, rfl⟩
              rw [HD.out]
              go_wp2_with fail
              go_meet
              exact ⟨by rw [he.out], rfl⟩
            · have hN := Lib.hid (tw_next H.out hat (by simp [partU, hp, hd]))
              clear H hat
              have HP := Lib.hid hp
              have HD := Lib.hid hd
              clear hp hd
              go_wp2_with fail
              refine (start_any _ _).mono ?_
              rintro e w2 ⟨rfl, rfl⟩
              rw [HP.out]
              go_wp2_with fail
              refine (rdigit_any _ _).mono ?_
              rintro e w2 ⟨rfl, rfl⟩
              rw [HD.out]
              go_wp2_with fail
              go_roundg g
              case measure => omega
              case rel => exact ⟨k + 1, by omega, by go_num, Aside.intro hN.out, rfl⟩
          · have hN := Lib.hid (tw_next H.out hat (by simp [partU, hp]))
            clear H hat
            have HP := Lib.hid hp
            clear hp
            go_wp2_with fail
            refine (start_any _ _).mono ?_
            rintro e w2 ⟨rfl, rfl⟩
            rw [HP.out]
            go_wp2_with fail
            go_roundg g
            case measure => omega
            case rel => exact ⟨k + 1, by omega, by go_num, Aside.intro hN.out, rfl⟩
    case rest =>
      obtain ⟨rfl, rfl⟩ := hcut
      have w0 : (0 : Int) ≤ (l : Int) := by omega
      have w1 : (l : Int) ≤ (E : Int) := by omega
      have w2 : (E : Int) ≤ (s.size : Int) := by omega
      have NB0 := Lib.hid (set_other B0.out (by omega) : (wc.setCell ⟨w.heap.size + 1, 0, none⟩ (.string n)).heap[w.heap.size]? = _)
      have NB1 := Lib.hid (set_0 B1.out (v := .string n))
      have NHB := Lib.hid (HB.out.setCell (Nat.le_succ _) _ : Below w.heap.size w (wc.setCell ⟨w.heap.size + 1, 0, none⟩ (.string n)))
      by_cases h4 : l ≤ 4
      · have h4' : ¬ (4 : Int) < (l : Int) := by omega
        have e4 : decide ((4 : Int) < (l : Int)) = false := by simp; omega
        have HNm := fun w => Lib.hid (rname_any n w hns)
        cases hnm : nameB n.data.toList
        · have hv : Hid (refV s.data.toList = noT) := Lib.hid (by rw [hRV.out]; simp [hnm])
          rw [hnm] at HNm
          clear hnm
          go_wp2_with fail
          rw [hEx.out]
          refine (HNm _).out.mono ?_
          rintro e w3 ⟨rfl, rfl⟩
          go_wp2_with fail
          refine ret_ty rfl rfl rfl (ty_set NB0.out) ⟨?_, set3 NHB.out (Nat.le_refl _) _ _ _⟩
          rw [hv.out]
          rfl
        · have hv : Hid (refV s.data.toList = optV (parB l (l + 1) 0 (s.data.toList.drop E)) n l) := Lib.hid (by rw [hRV.out]; simp [hnm, h4])
          rw [hnm] at HNm
          clear hnm
          go_wp2_with fail
          rw [hEx.out]
          refine (HNm _).out.mono ?_
          rintro e w3 ⟨rfl, rfl⟩
          clear HNm hEx hC
          go_wp2_with fail
          go_loopg [5, 6] (l + 1) (fun g iv kv wx => ∃ i q : Nat, iv = .int .i64 i ∧ kv = .int .i64 ((g : Int) - 1) ∧ g ≤ l + 1 ∧ q < 32 ∧ i ≤ s.size ∧ wx.heap[w.heap.size]? = some (.cells #[.string ⟨#[]⟩, .int .i64 0, .int .i64 0] 23 (0, 0)) ∧ wx.heap[w.heap.size + 1]? = some (.cells #[.string n, .int .i64 l, .int .i64 q] 23 (0, 0)) ∧ Below w.heap.size w wx ∧ Aside (parB l (l + 1) 0 (s.data.toList.drop E) = parB l g q (s.data.toList.drop i)))
          case atStart => exact ⟨E, 0, rfl, by simp, by omega, by omega, hcle, NB0.out, NB1.out, NHB.out, Aside.intro rfl⟩
          case round =>
            clear a0 a1 a2 g0 g1 g2 c0 c1 c2 f0 f1 f2 NB0 NB1 NHB
            obtain ⟨i, q, rfl, hkv, hg, hq, his, b0, b1, hb, H⟩ := hrel
            obtain ⟨a0, a1, a2, g0, g1, g2⟩ := ty_cells b0
            obtain ⟨c0, c1, c2, f0, f1, f2⟩ := ty_cells b1
            have R0 := Lib.hid b0
            have R1 := Lib.hid b1
            have RB := Lib.hid hb
            have hi0 : (0 : Int) ≤ (i : Int) := by omega
            clear b0 b1 hb
            cases gk with
            | zero =>
              have ek : ((0 : Nat) : Int) - 1 = -1 := by omega
              rw [ek] at hkv
              subst hkv
              by_cases hie : i = s.size
              · have hv2 : Hid (refV s.data.toList = yesT n l q) := Lib.hid (by rw [hv.out, H.out, drop_all s i (by omega)]; rfl)
                have hie' : ((i : Int) != (s.size : Int)) = false := by simp; omega
                clear H hv
                go_wp2_with fail
                refine ret_ty rfl rfl rfl (ty_set R0.out) ⟨?_, set3 RB.out (Nat.le_refl _) _ _ _⟩
                rw [hv2.out]
                rfl
              · have hv2 : Hid (refV s.data.toList = noT) := Lib.hid (by rw [hv.out, H.out, drop_at s i (by omega)]; rfl)
                have hie' : ((i : Int) != (s.size : Int)) = true := by simp; omega
                clear H hv
                go_wp2_with fail
                refine ret_ty rfl rfl rfl (ty_set R0.out) ⟨?_, set3 RB.out (Nat.le_refl _) _ _ _⟩
                rw [hv2.out]
                rfl
            | succ k =>
              have ek : ((k + 1 : Nat) : Int) - 1 = (k : Int) := by omega
              rw [ek] at hkv
              subst hkv
              have hk4 : k ≤ 4 := by omega
              have hk0 : (0 : Int) ≤ (k : Int) := by omega
              have hw : IntKind.i64.wrap ((2 : Int) ^ k) = 2 ^ k := by
                have : k = 0 ∨ k = 1 ∨ k = 2 ∨ k = 3 ∨ k = 4 := by omega
                rcases this with rfl | rfl | rfl | rfl | rfl <;> rfl
              obtain ⟨hor, hor2⟩ := or_at hq hk4
              obtain ⟨q', hq'⟩ : ∃ q', q ||| 2 ^ k = q' := ⟨_, rfl⟩
              rw [hq'] at hor hor2
              by_cases hkl : k < l
              · have hkl' : (k : Int) < (l : Int) := by omega
                by_cases hie : i = s.size
                · have hv2 : Hid (refV s.data.toList = noT) := Lib.hid (by rw [hv.out, H.out, par_in_none hkl (head_end s i (by omega)).2]; rfl)
                  have hie' : (s.size : Int) ≤ (i : Int) := by omega
                  have hie2 : decide ((s.size : Int) ≤ (i : Int)) = true := by simpa using hie'
                  clear H hv
                  go_wp2_with fail
                  refine ret_ty rfl rfl rfl (ty_set R0.out) ⟨?_, set3 RB.out (Nat.le_refl _) _ _ _⟩
                  rw [hv2.out]
                  rfl
                · have hlt : i < s.size := by omega
                  have hlt' : (i : Int) < (s.size : Int) := by omega
                  have hge : decide ((s.size : Int) ≤ (i : Int)) = false := by simp; omega
                  by_cases hc : s[i] = 93
                  · have n93 : ((s[i].toNat : Int) != 93) = false := by rw [hc]; rfl
                    have HP := par_in (q := q) hkl hlt hc
                    rw [hq'] at HP
                    by_cases hie2 : i + 1 = s.size
                    · have HN := Lib.hid (H.out.trans (HP.trans (if_neg (head_end s (i + 1) (by omega)).1)))
                      have hge2 : ¬ (i : Int) + 1 < (s.size : Int) := by omega
                      clear H HP hc
                      go_wp2_with fail
                      go_roundg k
                      case measure => omega
                      case rel => exact ⟨i + 1, q, by go_num, by go_num, by omega, hq, by omega, R0.out, R1.out, RB.out, Aside.intro HN.out⟩
                    · have hlt2 : i + 1 < s.size := by omega
                      have hlt2' : (i : Int) + 1 < (s.size : Int) := by omega
                      by_cases hm : s[i + 1] = 33
                      · have n33 : ((s[i + 1].toNat : Int) == 33) = true := by rw [hm]; rfl
                        have HN := Lib.hid (H.out.trans (HP.trans (if_pos (by rw [head_at s (i + 1) hlt2, hm]))))
                        clear H HP hc hm
                        go_wp2_with fail
                        go_roundg k
                        case measure => omega
                        case rel => exact ⟨i + 2, q', by go_num, by go_num, by omega, hor2, by omega, set_other R0.out (by omega), set_2 R1.out, RB.out.setCell (Nat.le_succ _) _, Aside.intro HN.out⟩
                      · have n33 : ((s[i + 1].toNat : Int) == 33) = false := ne_byte (n := 33) (by omega) hm
                        have HN := Lib.hid (H.out.trans (HP.trans (if_neg (by rw [head_at s (i + 1) hlt2]; simpa using hm))))
                        clear H HP hc hm
                        go_wp2_with fail
                        go_roundg k
                        case measure => omega
                        case rel => exact ⟨i + 1, q, by go_num, by go_num, by omega, hq, by omega, R0.out, R1.out, RB.out, Aside.intro HN.out⟩
                  · have n93 : ((s[i].toNat : Int) != 93) = true := by
                      have := ne_byte (n := 93) (by omega) hc
                      simpa [bne] using this
                    have hv2 : Hid (refV s.data.toList = noT) := Lib.hid (by rw [hv.out, H.out, par_in_none hkl (by rw [head_at s i hlt]; simpa using hc)]; rfl)
                    clear H hv hc
                    go_wp2_with fail
                    refine ret_ty rfl rfl rfl (ty_set R0.out) ⟨?_, set3 RB.out (Nat.le_refl _) _ _ _⟩
                    rw [hv2.out]
                    rfl
              · obtain rfl : k = l := by omega
                have HP := par_out (l := k) (q := q) (s := s) (i := i)
                rw [hq'] at HP
                by_cases hie : i = s.size
                · have HN := Lib.hid (H.out.trans (HP.trans (if_neg (head_end s i (by omega)).1)))
                  have hge2 : ¬ (i : Int) < (s.size : Int) := by omega
                  clear H HP
                  go_wp2_with fail
                  go_roundg k
                  case measure => omega
                  case rel => exact ⟨i, q, by go_num, by go_num, by omega, hq, by omega, R0.out, R1.out, RB.out, Aside.intro HN.out⟩
                · have hlt : i < s.size := by omega
                  have hlt' : (i : Int) < (s.size : Int) := by omega
                  by_cases hm : s[i] = 33
                  · have n33 : ((s[i].toNat : Int) == 33) = true := by rw [hm]; rfl
                    have HN := Lib.hid (H.out.trans (HP.trans (if_pos (by rw [head_at s i hlt, hm]))))
                    clear H HP hm
                    go_wp2_with fail
                    go_roundg k
                    case measure => omega
                    case rel => exact ⟨i + 1, q', by go_num, by go_num, by omega, hor2, by omega, set_other R0.out (by omega), set_2 R1.out, RB.out.setCell (Nat.le_succ _) _, Aside.intro HN.out⟩
                  · have n33 : ((s[i].toNat : Int) == 33) = false := ne_byte (n := 33) (by omega) hm
                    have HN := Lib.hid (H.out.trans (HP.trans (if_neg (by rw [head_at s i hlt]; simpa using hm))))
                    clear H HP hm
                    go_wp2_with fail
                    go_roundg k
                    case measure => omega
                    case rel => exact ⟨i, q, by go_num, by go_num, by omega, hq, by omega, R0.out, R1.out, RB.out, Aside.intro HN.out⟩
      · have h4' : (4 : Int) < (l : Int) := by omega
        have hv : Hid (refV s.data.toList = noT) := Lib.hid (by rw [hRV.out]; simp [h4])
        have e4 : decide ((4 : Int) < (l : Int)) = true := by simpa using h4'
        go_wp2_with fail
        rw [hEx.out]
        refine ret_ty rfl rfl rfl (ty_set NB0.out) ⟨?_, set3 NHB.out (Nat.le_refl _) _ _ _⟩
        rw [hv.out]
        rfl
end Go.Proofs.Ytfinboplkjijhaa
