/- The walks of the document's own Put and Join. -/
import Derived.Test.YtkddbmdjcjldgaaDoorJoin
import Derived.Laws.BytesString
import Derived.Laws.Append
namespace Go.Proofs.YtkddbmdjcjldgaaDoor
open Go.RowKit

theorem or_high_all : ∀ x : Fin 64, bits .or .i64 128 ((x.val : Nat) : Int) = 128 + ((x.val : Nat) : Int) ∧ bits .or .i64 192 ((x.val : Nat) : Int) = 192 + ((x.val : Nat) : Int) ∧ (x.val < 32 → bits .or .i64 224 ((x.val : Nat) : Int) = 224 + ((x.val : Nat) : Int)) ∧ (x.val < 16 → bits .or .i64 240 ((x.val : Nat) : Int) = 240 + ((x.val : Nat) : Int)) := by decide +kernel
theorem or_128 {x : Int} (h0 : 0 ≤ x) (h1 : x < 64) : bits .or .i64 128 x = 128 + x := by
  obtain ⟨n, rfl⟩ := Int.eq_ofNat_of_zero_le h0
  exact (or_high_all ⟨n, by omega⟩).1
theorem or_192 {x : Int} (h0 : 0 ≤ x) (h1 : x < 64) : bits .or .i64 192 x = 192 + x := by
  obtain ⟨n, rfl⟩ := Int.eq_ofNat_of_zero_le h0
  exact (or_high_all ⟨n, by omega⟩).2.1
theorem or_224 {x : Int} (h0 : 0 ≤ x) (h1 : x < 32) : bits .or .i64 224 x = 224 + x := by
  obtain ⟨n, rfl⟩ := Int.eq_ofNat_of_zero_le h0
  exact (or_high_all ⟨n, by omega⟩).2.2.1 (by show n < 32; omega)
theorem or_240 {x : Int} (h0 : 0 ≤ x) (h1 : x < 16) : bits .or .i64 240 x = 240 + x := by
  obtain ⟨n, rfl⟩ := Int.eq_ofNat_of_zero_le h0
  exact (or_high_all ⟨n, by omega⟩).2.2.2 (by show n < 16; omega)
theorem and_63 {x : Int} (h0 : 0 ≤ x) (h1 : x < 9223372036854775808) : bits .and .i64 x 63 = x % 64 := by
  obtain ⟨a, rfl⟩ := Int.eq_ofNat_of_zero_le h0
  show IntKind.i64.wrap ((BitVec.ofInt 64 (a : Int) &&& BitVec.ofInt 64 ((63 : Nat) : Int)).toNat : Int) = _
  rw [BitVec.toNat_and, ofInt_i64 a (by omega), ofInt_i64 63 (by omega), show (63 : Nat) = 2 ^ 6 - 1 from rfl, Nat.and_two_pow_sub_one_eq_mod, IntKind.wrap_i64]
  omega
theorem add_here (b n : Nat) : (⟨b, 0, none⟩ : Addr).add n = ⟨b, n, none⟩ := by unfold Addr.add; split <;> simp_all
theorem fold_bytes : ∀ (ns : List Int) (a : Array UInt8), ns.foldl (fun r n => r.push (UInt8.ofNat n.toNat)) (⟨a⟩ : ByteArray) = ⟨a ++ (ns.map fun x => x.toNat.toUInt8).toArray⟩ := by
  intro ns
  induction ns with
  | nil => intro a; simp
  | cons n ns ih =>
    intro a
    rw [List.foldl_cons]
    show ns.foldl _ (⟨a.push (UInt8.ofNat n.toNat)⟩ : ByteArray) = _
    rw [ih]
    refine congrArg ByteArray.mk (Array.toList_inj.1 ?_)
    rw [Array.toList_append, Array.toList_append, Array.toList_push, List.map_cons, List.append_assoc]
    rfl
/-- The text of a new block of bytes. -/
theorem bytes_text (c : Int) (ns : List Int) (h : Lib.encodeRuneZ c = ns) (w : World) : (convert 37 9 (.slice (some ⟨w.heap.size, 0, none⟩) ns.length ns.length)).run Tryd.prog (w.alloc (.cells (ns.map (Value.int .u8)).toArray 5)) = .ok (.string ⟨(Lib.encodeRune c).toArray⟩) (w.alloc (.cells (ns.map (Value.int .u8)).toArray 5)) := by
  rw [run_convert_bytes_string _ _ _ _ _ _ _ Tryd.underlying37 Tryd.underlying5 Tryd.underlying9]
  rw [run_bytesToString _ _ _ _ ns]
  · have := fold_bytes ns #[]
    rw [show (ByteArray.empty) = (⟨#[]⟩ : ByteArray) from rfl, this]
    unfold Lib.encodeRune
    rw [h]
    simp
  · have := run_loadCells_list (P := Tryd.prog) (w.alloc (.cells (ns.map (Value.int .u8)).toArray 5)) ⟨w.heap.size, 0, none⟩ (ns.map (Value.int .u8)) (fun j v hj => by
      rw [add_here, World.cell?_alloc_at _ _ _ _ rfl]
      simpa using hj)
    rw [List.length_map] at this
    exact this

set_option maxRecDepth 100000 in
theorem put_any (c : Int) (w : World) (hok : okB c = true) : Calls Tryd.prog 38 #[.int .i64 c] w fun e w' => e = .returned (.string ⟨(Lib.encodeRune c).toArray⟩) ∧ Below w.heap.size w w' := by
  have hok' : 0 ≤ c ∧ c ≤ 1114111 ∧ halfB c = false := by simpa [okB] using hok
  obtain ⟨h0, h1, h2⟩ := hok'
  have hh : ¬ (55296 ≤ c ∧ c ≤ 57343) := by simpa [halfB] using h2
  clear hok h2
  by_cases a1 : c < 128
  · have tx := bytes_text c _ (Lib.encodeRuneZ_one h0 (show c ≤ 127 by omega)) w
    simp only [List.map_cons, List.map_nil, List.length_cons, List.length_nil, Nat.zero_add] at tx
    clear hh
    generalize (⟨(Lib.encodeRune c).toArray⟩ : ByteArray) = T at *
    go_enter Tryd.func38, Tryd.ntmps38
    go_wp2
    go_ret
    exact ⟨rfl, (Below.refl _ _).alloc (Nat.le_refl _) _⟩
  by_cases a2 : c < 2048
  · have tx := bytes_text c _ (Lib.encodeRuneZ_two (show 128 ≤ c by omega) (show c ≤ 2047 by omega)) w
    simp only [List.map_cons, List.map_nil, List.length_cons, List.length_nil, Nat.zero_add, Nat.reduceAdd] at tx
    have m1 := or_192 (x := c / 64) (by omega) (by omega)
    have m2 := and_63 (x := c) h0 (by omega)
    have m3 := or_128 (x := c % 64) (by omega) (by omega)
    have m4 : (192 + c / 64) % 256 = 192 + c / 64 := by omega
    have m5 : (128 + c % 64) % 256 = 128 + c % 64 := by omega
    clear hh
    generalize (⟨(Lib.encodeRune c).toArray⟩ : ByteArray) = T at *
    go_enter Tryd.func38, Tryd.ntmps38
    go_wp2
    go_ret
    exact ⟨rfl, (Below.refl _ _).alloc (Nat.le_refl _) _⟩
  by_cases a3 : c < 65536
  · have tx := bytes_text c _ (Lib.encodeRuneZ_three (show (2048 ≤ c ∧ c < 55296) ∨ (57343 < c ∧ c ≤ 65535) by omega)) w
    simp only [List.map_cons, List.map_nil, List.length_cons, List.length_nil, Nat.zero_add, Nat.reduceAdd] at tx
    have m1 := or_224 (x := c / 4096) (by omega) (by omega)
    have m2 := and_63 (x := c) h0 (by omega)
    have m3 := or_128 (x := c % 64) (by omega) (by omega)
    have m2' := and_63 (x := c / 64) (by omega) (by omega)
    have m3' := or_128 (x := c / 64 % 64) (by omega) (by omega)
    have m4 : (224 + c / 4096) % 256 = 224 + c / 4096 := by omega
    have m5 : (128 + c % 64) % 256 = 128 + c % 64 := by omega
    have m6 : (128 + c / 64 % 64) % 256 = 128 + c / 64 % 64 := by omega
    clear hh
    generalize (⟨(Lib.encodeRune c).toArray⟩ : ByteArray) = T at *
    go_enter Tryd.func38, Tryd.ntmps38
    go_wp2
    go_ret
    exact ⟨rfl, (Below.refl _ _).alloc (Nat.le_refl _) _⟩
  · have tx := bytes_text c _ (Lib.encodeRuneZ_four (show 65536 ≤ c by omega) h1) w
    simp only [List.map_cons, List.map_nil, List.length_cons, List.length_nil, Nat.zero_add, Nat.reduceAdd] at tx
    have m1 := or_240 (x := c / 262144) (by omega) (by omega)
    have m2 := and_63 (x := c) h0 (by omega)
    have m3 := or_128 (x := c % 64) (by omega) (by omega)
    have m2' := and_63 (x := c / 64) (by omega) (by omega)
    have m3' := or_128 (x := c / 64 % 64) (by omega) (by omega)
    have m2'' := and_63 (x := c / 4096) (by omega) (by omega)
    have m3'' := or_128 (x := c / 4096 % 64) (by omega) (by omega)
    have m4 : (240 + c / 262144) % 256 = 240 + c / 262144 := by omega
    have m5 : (128 + c % 64) % 256 = 128 + c % 64 := by omega
    have m6 : (128 + c / 64 % 64) % 256 = 128 + c / 64 % 64 := by omega
    have m7 : (128 + c / 4096 % 64) % 256 = 128 + c / 4096 % 64 := by omega
    clear hh
    generalize (⟨(Lib.encodeRune c).toArray⟩ : ByteArray) = T at *
    go_enter Tryd.func38, Tryd.ntmps38
    go_wp2
    go_ret
    exact ⟨rfl, (Below.refl _ _).alloc (Nat.le_refl _) _⟩

theorem cat_done (s : ByteArray) (l : List UInt8) : (s ++ ⟨l.toArray⟩).data.toList = s.data.toList ++ l := by simp
theorem mk_data (s : ByteArray) : (⟨s.data.toList.toArray⟩ : ByteArray) = s := by simp
theorem pairUp_low {z : Int} {t : List Int} (h0 : 56320 ≤ z) (h1 : z < 57344) : pairUp (z :: t) = none := by
  have hh : halfB z = true := by simp [halfB]; omega
  cases t with
  | nil => exact pairUp_end hh
  | cons d t => exact pairUp_odd hh (by simp [pairB]; omega)

set_option maxRecDepth 100000 in
set_option maxHeartbeats 2000000 in
theorem rjoin_any (A : Option Addr) (n cap : Nat) (zs : List Int) (w : World) (hn : n ≤ 9000) (hz : IntsAt w w.heap.size A n zs) :
    Calls Tryd.prog 23 #[.slice A n cap] w fun e w' => e = .returned (.tuple #[.string (joinS zs), .bool (joinOk zs)]) ∧ Below w.heap.size w w' := by
  have HZ := Lib.hid hz
  clear hz
  go_enter Tryd.func23, Tryd.ntmps23
  go_wp2
  go_loopg [4, 5] n (fun g out i wx => ∃ (k : Nat) (S : ByteArray), k + g = n ∧ i = .int .i64 k ∧ out = .string S ∧ S.size ≤ 4 * k ∧ Below w.heap.size w wx ∧ Aside (JoinTo zs k S.data.toList))
  case atStart => exact ⟨0, ⟨#[]⟩, by omega, rfl, rfl, by decide, Below.refl _ _, Aside.intro (by unfold JoinTo joinL; rw [List.drop_zero]; rfl)⟩
  case round =>
    obtain ⟨k, S, hk, rfl, rfl, hS, hb, H⟩ := hrel
    cases gk with
    | zero =>
      obtain rfl : k = n := by omega
      have hfin := H.out.done (by rw [HZ.out.1]; omega)
      rw [mk_data] at hfin
      have HF := Lib.hid hfin
      clear H hfin
      go_wp2
      go_ret2
      exact join_ret HF.out.1 HF.out.2 hb
    | succ g =>
      have hkn : k < n := by omega
      have hkn' : (k : Int) < (n : Int) := by omega
      obtain ⟨z, hzk⟩ : ∃ z, zs[k]? = some z := ⟨_, List.getElem?_eq_getElem (by rw [HZ.out.1]; omega)⟩
      obtain ⟨b, o, rfl, hblt, hcell⟩ := (HZ.out.below hb).2 k z hzk
      have HK := Lib.hid hzk
      clear hzk
      have HB := Lib.hid hb
      clear hb
      by_cases h0 : z < 0
      · have hfin := Lib.hid (H.out.no (by rw [drop_cons HK.out]; exact pairUp_range (.inl h0)))
        clear H
        go_wp2
        go_ret2
        exact join_ret hfin.out.1 hfin.out.2 HB.out
      have e0 : decide (z < 0) = false := by simp; omega
      by_cases h1 : 65535 < z
      · have hfin := Lib.hid (H.out.no (by rw [drop_cons HK.out]; exact pairUp_range (.inr (by omega))))
        clear H
        go_wp2
        go_ret2
        exact join_ret hfin.out.1 hfin.out.2 HB.out
      have e1 : decide (65535 < z) = false := by simp; omega
      by_cases h2 : 56320 ≤ z ∧ z < 57344
      · obtain ⟨l1, l2⟩ := h2
        have hfin := Lib.hid (H.out.no (by rw [drop_cons HK.out]; exact pairUp_low l1 l2))
        have e2 : decide (56320 ≤ z) = true := by simp; omega
        have e3 : decide (z < 57344) = true := by simp; omega
        clear H
        go_wp2
        go_ret2
        exact join_ret hfin.out.1 hfin.out.2 HB.out
      have e23 : decide (56320 ≤ z) = false ∨ (decide (56320 ≤ z) = true ∧ decide (z < 57344) = false) := by
        by_cases h : 56320 ≤ z
        · exact .inr ⟨by simpa using h, by simp; omega⟩
        · exact .inl (by simpa using h)
      by_cases h3 : 55296 ≤ z ∧ z < 56320
      · obtain ⟨l1, l2⟩ := h3
        have hh : halfB z = true := by simp [halfB]; omega
        have hh' := Lib.hid hh
        clear hh e23
        have e2 : decide (56320 ≤ z) = false := by simp; omega
        have e4 : decide (55296 ≤ z) = true := by simp; omega
        have e5 : decide (z < 56320) = true := by simp; omega
        by_cases hlast : n ≤ k + 1
        · have hfin := Lib.hid (H.out.no (by rw [drop_cons HK.out, List.drop_eq_nil_of_le (by rw [HZ.out.1]; omega)]; exact pairUp_end hh'.out))
          have e6 : decide ((n : Int) ≤ (k : Int) + 1) = true := by simp; omega
          clear H
          go_wp2
          go_ret2
          exact join_ret hfin.out.1 hfin.out.2 HB.out
        · have e6 : decide ((n : Int) ≤ (k : Int) + 1) = false := by simp; omega
          have hk1 : k + 1 < n := by omega
          have hk1' : (k : Int) + 1 < (n : Int) := by omega
          obtain ⟨y, hyk⟩ : ∃ y, zs[k + 1]? = some y := ⟨_, List.getElem?_eq_getElem (by rw [HZ.out.1]; omega)⟩
          obtain ⟨b', o', e', hblt', hcell'⟩ := (HZ.out.below HB.out).2 (k + 1) y hyk
          obtain ⟨rfl, rfl⟩ : b = b' ∧ o = o' := by injection e' with e'; injection e' with e1 e2; exact ⟨e1, e2⟩
          clear e' hlast
          have HK2 := Lib.hid hyk
          clear hyk
          by_cases hy1 : y < 56320
          · have hfin := Lib.hid (H.out.no (by rw [drop_cons HK.out, drop_cons HK2.out]; exact pairUp_odd hh'.out (by simp [pairB]; omega)))
            have e7 : decide (y < 56320) = true := by simp; omega
            clear H
            go_wp2
            go_ret2
            exact join_ret hfin.out.1 hfin.out.2 HB.out
          have e7 : decide (y < 56320) = false := by simp; omega
          by_cases hy2 : 57344 ≤ y
          · have hfin := Lib.hid (H.out.no (by rw [drop_cons HK.out, drop_cons HK2.out]; exact pairUp_odd hh'.out (by simp [pairB]; omega)))
            have e8 : decide (57344 ≤ y) = true := by simp; omega
            clear H
            go_wp2
            go_ret2
            exact join_ret hfin.out.1 hfin.out.2 HB.out
          · have e8 : decide (57344 ≤ y) = false := by simp; omega
            have hJ' := Lib.hid (H.out.two HK.out HK2.out (by omega) (by omega) hh'.out (by simp [pairB]; omega))
            have hokc : okB (65536 + 1024 * (z - 55296) + y - 56320) = true := by simp [okB, halfB]; omega
            have HP := Lib.hid (put_any (65536 + 1024 * (z - 55296) + y - 56320) wr hokc)
            have hel := encode_len (65536 + 1024 * (z - 55296) + y - 56320)
            clear H hokc
            go_wp2_with fail
            refine HP.out.mono ?_
            rintro e w2 ⟨rfl, hb2⟩
            have hsz : (S ++ ⟨(Lib.encodeRune (65536 + 1024 * (z - 55296) + y - 56320)).toArray⟩).size ≤ 4 * (k + 2) := by
              rw [ByteArray.size_append]
              have : (⟨(Lib.encodeRune (65536 + 1024 * (z - 55296) + y - 56320)).toArray⟩ : ByteArray).size = (Lib.encodeRune (65536 + 1024 * (z - 55296) + y - 56320)).length := rfl
              omega
            have HS := Lib.hid hsz
            have HB2 := Lib.hid (HB.out.trans (hb2.mono HB.out.size))
            clear hsz hb2
            go_wp2_with fail
            go_roundg (n - (k + 2))
            case measure => omega
            case rel => exact ⟨k + 2, _, by omega, by go_num, rfl, HS.out, HB2.out, Aside.intro (by rw [cat_done]; exact hJ'.out)⟩
      · have hh : halfB z = false := by simp [halfB]; omega
        have e45 : decide (55296 ≤ z) = false ∨ (decide (55296 ≤ z) = true ∧ decide (z < 56320) = false) := by
          by_cases h : 55296 ≤ z
          · exact .inr ⟨by simpa using h, by simp; omega⟩
          · exact .inl (by simpa using h)
        have hJ' := Lib.hid (H.out.one HK.out (by omega) (by omega) hh)
        have HP := Lib.hid (put_any z wr (by simp [okB, hh]; omega))
        have hel := encode_len z
        clear H hh h2 h3
        rcases e23 with e2 | ⟨e2, e3⟩ <;> rcases e45 with e4 | ⟨e4, e5⟩
        all_goals
          go_wp2_with fail
          refine HP.out.mono ?_
          rintro e w2 ⟨rfl, hb2⟩
          have hsz : (S ++ ⟨(Lib.encodeRune z).toArray⟩).size ≤ 4 * (k + 1) := by
            rw [ByteArray.size_append]
            have : (⟨(Lib.encodeRune z).toArray⟩ : ByteArray).size = (Lib.encodeRune z).length := rfl
            omega
          have HS := Lib.hid hsz
          have HB2 := Lib.hid (HB.out.trans (hb2.mono HB.out.size))
          clear hsz hb2
          go_wp2_with fail
          go_roundg g
          case measure => omega
          case rel => exact ⟨k + 1, _, by omega, by go_num, rfl, HS.out, HB2.out, Aside.intro (by rw [cat_done]; exact hJ'.out)⟩
end Go.Proofs.YtkddbmdjcjldgaaDoor
