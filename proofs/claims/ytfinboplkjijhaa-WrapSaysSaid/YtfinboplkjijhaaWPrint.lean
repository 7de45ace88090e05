/- The walks of Print, of the landed package and of the document's own answer. -/
import Derived.Test.YtfinboplkjijhaaWSub
import Derived.Test.YtfinboplkjijhaaWShelf
import Derived.Deep.RegionHeld3
namespace Go.Proofs.Ytfinboplkjijhaa
open Go.RowKit

theorem len_data (s : ByteArray) : s.data.toList.length = s.size := Array.length_toList
theorem cat_two (s t : ByteArray) : (s ++ t).data.toList = s.data.toList ++ t.data.toList := by simp
theorem mk_of {s : ByteArray} {l : List UInt8} (h : s.data.toList = l) : (⟨l.toArray⟩ : ByteArray) = s := by subst h; simp
theorem tail_len (m : Nat) : ∀ d j, (tailD m d j).length ≤ 1 + 2 * d := by
  intro d
  induction d with
  | zero => intro j; unfold tailD bang; split <;> simp
  | succ d ih =>
    intro j
    have := ih (j + 1)
    unfold tailD bang
    split <;> simp <;> omega
/-- What stands behind the name when the places from g on are done. -/
def preT (k q g : Nat) : List UInt8 := if g = k + 1 then [] else tailD q (k - g) g
def rpreT (n : List UInt8) (k q g : Nat) : List UInt8 := if g = k + 1 then n else prD n q (k - g) g
theorem preT_start (k q : Nat) : preT k q (k + 1) = [] := if_pos rfl
theorem preT_last (k q i : Nat) (h : i = k) : preT k q i = bang i q := by
  subst h
  rw [preT, if_neg (by omega), Nat.sub_self]; rfl
theorem preT_step (k q i : Nat) (h : i < k) : preT k q i = preT k q (i + 1) ++ 93 :: bang i q := by
  rw [preT, if_neg (by omega), preT, if_neg (by omega)]
  obtain ⟨d, hd⟩ : ∃ d, k - i = d + 1 := ⟨k - i - 1, by omega⟩
  rw [hd, (by omega : k - (i + 1) = d)]
  rfl
theorem rpreT_start (n : List UInt8) (k q : Nat) : rpreT n k q (k + 1) = n := if_pos rfl
theorem rpreT_last (n : List UInt8) (k q i : Nat) (h : i = k) : rpreT n k q i = n ++ bang i q := by
  subst h
  rw [rpreT, if_neg (by omega), Nat.sub_self]; rfl
theorem rpreT_step (n : List UInt8) (k q i : Nat) (h : i < k) : rpreT n k q i = 91 :: (rpreT n k q (i + 1) ++ 93 :: bang i q) := by
  rw [rpreT, if_neg (by omega), rpreT, if_neg (by omega)]
  obtain ⟨d, hd⟩ : ∃ d, k - i = d + 1 := ⟨k - i - 1, by omega⟩
  rw [hd, (by omega : k - (i + 1) = d)]
  rfl
theorem bit_all : ∀ a : Fin 32, ∀ i : Fin 5, bits .and .i64 ((a.val : Nat) / 2 ^ i.val : Int) 1 = if a.val.testBit i.val then 1 else 0 := by decide +kernel
theorem bit_at {q i : Nat} (hq : q < 32) (hi : i ≤ 4) : bits .and .i64 ((q : Int) / 2 ^ i) 1 = if q.testBit i then 1 else 0 := bit_all ⟨q, hq⟩ ⟨i, by omega⟩

/-- The block of the type is kept, and all that was there. -/
def KP (w w' : World) (n : ByteArray) (l m : Int) : Prop := w'.heap[w.heap.size]? = some (.cells #[.string n, .int .i64 l, .int .i64 m] 23 (0, 0)) ∧ Below w.heap.size w w'
theorem KP.next {w w1 w2 : World} {n : ByteArray} {l m : Int} (hb : Below w1.heap.size w1 w2) (h : KP w w1 n l m) : KP w w2 n l m :=
  ⟨(hb.block w.heap.size (lt_of_heap h.1)).trans h.1, h.2.trans (hb.mono h.2.size)⟩
theorem KP.cells {w w1 : World} {n : ByteArray} {l m : Int} (h : KP w w1 n l m) : w1.cell? ⟨w.heap.size, 0, none⟩ = some (.string n) ∧ w1.cell? ⟨w.heap.size, 1, none⟩ = some (.int .i64 l) ∧ KP w w1 n l m := ⟨(ty_cells h.1).1, (ty_cells h.1).2.1, h⟩
theorem held_next2 {w w1 w2 : World} {n : ByteArray} {l m : Int} (hb : Below w1.heap.size w1 w2) (h : w1.cell? ⟨w.heap.size, 0, none⟩ = some (.string n) ∧ w1.cell? ⟨w.heap.size, 1, none⟩ = some (.int .i64 l) ∧ KP w w1 n l m) : w2.cell? ⟨w.heap.size, 0, none⟩ = some (.string n) ∧ w2.cell? ⟨w.heap.size, 1, none⟩ = some (.int .i64 l) ∧ KP w w2 n l m := (h.2.2.next hb).cells
theorem ret_s {x y : ByteArray} {b : Bool} (h : x = y) : Ending.returned (.tuple #[.string x, .bool b]) = .returned (.tuple #[.string y, .bool b]) := by rw [h]

set_option maxRecDepth 100000 in
set_option maxHeartbeats 2000000 in
theorem print_no (n : ByteArray) (l m : Int) (w : World) (hn : n.size ≤ 9000) (hr : rightT n.data.toList l m = false) : Calls Try.prog 9 #[.agg #[.string n, .int .i64 l, .int .i64 m]] w fun e w' => e = .returned (.tuple #[.string ⟨#[]⟩, .bool false]) ∧ Below w.heap.size w w' := by
  have HR := fun w => Lib.hid (right_any n l m w hn)
  rw [hr] at HR
  clear hr
  go_enter Try.func9, Try.ntmps9
  go_wp2_with fail
  refine (HR _).out.mono ?_
  rintro e w2 ⟨rfl, hb2⟩
  obtain ⟨b0, HB⟩ := one_new hb2
  have HB' := Lib.hid HB
  clear b0 HB hb2 HR
  go_wp2_with fail
  go_ret2
  exact ⟨rfl, HB'.out⟩
set_option maxRecDepth 100000 in
set_option maxHeartbeats 2000000 in
theorem rprint_no (n : ByteArray) (l m : Int) (w : World) (hn : n.size ≤ 9000) (hr : rightT n.data.toList l m = false) : Calls Try.prog 10 #[.agg #[.string n, .int .i64 l, .int .i64 m]] w fun e w' => e = .returned (.tuple #[.string ⟨#[]⟩, .bool false]) ∧ Below w.heap.size w w' := by
  have HR := fun w => Lib.hid (rtright_any n l m w hn)
  rw [hr] at HR
  clear hr
  go_enter Try.func10, Try.ntmps10
  go_wp2_with fail
  refine (HR _).out.mono ?_
  rintro e w2 ⟨rfl, hb2⟩
  obtain ⟨b0, HB⟩ := one_new hb2
  have HB' := Lib.hid HB
  clear b0 HB hb2 HR
  go_wp2_with fail
  go_ret2
  exact ⟨rfl, HB'.out⟩
theorem right_nat {n : List UInt8} {k q : Nat} (hn : nameB n = true) (hk : k ≤ 4) (hq : q < 2 ^ (k + 1)) : rightT n k q = true := by
  refine right_of hn (by omega) (by omega) (by omega) ?_
  have : ((2 ^ (k + 1) : Nat) : Int) = (2 : Int) ^ (k + 1) := by simp
  simp only [Int.toNat_natCast]
  omega
theorem q_lt {k q : Nat} (hk : k ≤ 4) (hq : q < 2 ^ (k + 1)) : q < 32 := Nat.lt_of_lt_of_le hq (Nat.pow_le_pow_right (n := 2) (i := k + 1) (j := 5) (by omega) (by omega))

set_option maxRecDepth 100000 in
set_option maxHeartbeats 4000000 in
theorem rprint_yes (n : ByteArray) (k q : Nat) (w : World) (hn : n.size ≤ 9000) (hN : nameB n.data.toList = true) (hk : k ≤ 4) (hq : q < 2 ^ (k + 1)) : Calls Try.prog 10 #[.agg #[.string n, .int .i64 k, .int .i64 q]] w fun e w' => e = .returned (.tuple #[.string ⟨(printW n.data.toList k q).toArray⟩, .bool true]) ∧ Below w.heap.size w w' := by
  have HR := fun w => Lib.hid (rtright_any n k q w hn)
  rw [right_nat hN hk hq] at HR
  have hq' := q_lt hk hq
  clear hN hq
  go_enter Try.func10, Try.ntmps10
  go_wp2_with fail
  refine (HR _).out.mono ?_
  rintro e w2 ⟨rfl, hb2⟩
  obtain ⟨b0, HB⟩ := one_new hb2
  obtain ⟨a0, a1, a2, g0, g1, g2⟩ := ty_cells b0
  have HB' := Lib.hid HB
  clear b0 HB hb2 HR
  go_wp2_with fail
  go_loopg [4, 5] (k + 1) (fun g out iv wx => ∃ S : ByteArray, g ≤ k + 1 ∧ out = .string S ∧ iv = .int .i64 ((g : Int) - 1) ∧ Aside (S.data.toList = rpreT n.data.toList k q g) ∧ S.size ≤ n.size + 3 * (k + 1 - g) ∧ wx = w2)
  case atStart => exact ⟨n, by omega, rfl, by simp, Aside.intro (rpreT_start _ _ _).symm, by omega, rfl⟩
  case round =>
    obtain ⟨S, hg, rfl, hiv, H, hS, rfl⟩ := hrel
    cases gk with
    | zero =>
      have hE : Hid (S = (⟨(printW n.data.toList k q).toArray⟩ : ByteArray)) := Lib.hid (mk_of (by rw [H.out, rpreT, if_neg (by omega)]; rfl)).symm
      subst hiv
      clear H
      go_wp2
      go_ret2
      exact ⟨ret_s hE.out, HB'.out⟩
    | succ i =>
      have ei : ((i + 1 : Nat) : Int) - 1 = (i : Int) := by omega
      rw [ei] at hiv
      subst hiv
      have hi4 : i ≤ 4 := by omega
      have hbit := bit_at hq' hi4
      have hsz : S.size ≤ 9030 := by omega
      have z0 : (0 : Int) ≤ (i : Int) := by omega
      by_cases hik : i < k
      · have hik' : (i : Int) < (k : Int) := by omega
        have q1 : (1 : Int) + (S.size : Int) = ((1 + S.size : Nat) : Int) := by omega
        have q2 : ((1 + S.size : Nat) : Int) + 1 = ((1 + S.size + 1 : Nat) : Int) := by omega
        have q3 : ((1 + S.size + 1 : Nat) : Int) + 1 = ((1 + S.size + 1 + 1 : Nat) : Int) := by omega
        cases hb : q.testBit i
        · have HN : Hid (((⟨#[91]⟩ : ByteArray) ++ S ++ ⟨#[93]⟩).data.toList = rpreT n.data.toList k q i) := Lib.hid (by
            rw [cat_two, cat_two, H.out, rpreT_step _ _ _ _ hik, bang, hb]; simp)
          rw [hb] at hbit
          simp only [Bool.false_eq_true, if_false] at hbit
          clear H
          go_wp2
          go_roundg i
          case measure => omega
          case rel => exact ⟨_, by omega, rfl, by go_num, Aside.intro HN.out, by simp [ByteArray.size_append]; show 1 + S.size + 1 ≤ _; omega, rfl⟩
        · have HN : Hid (((⟨#[91]⟩ : ByteArray) ++ S ++ ⟨#[93]⟩ ++ ⟨#[33]⟩).data.toList = rpreT n.data.toList k q i) := Lib.hid (by
            rw [cat_two, cat_two, cat_two, H.out, rpreT_step _ _ _ _ hik, bang, hb]; simp)
          rw [hb] at hbit
          simp only [if_true] at hbit
          clear H
          go_wp2
          go_roundg i
          case measure => omega
          case rel => exact ⟨_, by omega, rfl, by go_num, Aside.intro HN.out, by simp [ByteArray.size_append]; show 1 + S.size + 1 + 1 ≤ _; omega, rfl⟩
      · obtain rfl : i = k := by omega
        cases hb : q.testBit i
        · have HN : Hid (S.data.toList = rpreT n.data.toList i q i) := Lib.hid (by
            rw [H.out, rpreT_start, rpreT_last _ _ _ _ rfl, bang, hb]; simp)
          rw [hb] at hbit
          simp only [Bool.false_eq_true, if_false] at hbit
          clear H
          go_wp2
          go_roundg i
          case measure => omega
          case rel => exact ⟨_, by omega, rfl, by go_num, Aside.intro HN.out, by omega, rfl⟩
        · have HN : Hid ((S ++ ⟨#[33]⟩).data.toList = rpreT n.data.toList i q i) := Lib.hid (by
            rw [cat_two, H.out, rpreT_start, rpreT_last _ _ _ _ rfl, bang, hb]; simp)
          rw [hb] at hbit
          simp only [if_true] at hbit
          clear H
          go_wp2
          go_roundg i
          case measure => omega
          case rel => exact ⟨_, by omega, rfl, by go_num, Aside.intro HN.out, by simp [ByteArray.size_append]; show S.size + 1 ≤ _; omega, rfl⟩

set_option maxRecDepth 100000 in
set_option maxHeartbeats 4000000 in
theorem print_yes (n : ByteArray) (k q : Nat) (w : World) (hn : n.size ≤ 9000) (hN : nameB n.data.toList = true) (hk : k ≤ 4) (hq : q < 2 ^ (k + 1)) : Calls Try.prog 9 #[.agg #[.string n, .int .i64 k, .int .i64 q]] w fun e w' => e = .returned (.tuple #[.string ⟨(printW n.data.toList k q).toArray⟩, .bool true]) ∧ Below w.heap.size w w' := by
  have HR := fun w => Lib.hid (right_any n k q w hn)
  rw [right_nat hN hk hq] at HR
  have hq' := q_lt hk hq
  have HP := fun w => Lib.hid (wrepeat_any ⟨#[91]⟩ k w (by omega) (by show 1 * k ≤ _; omega))
  obtain ⟨R, hR⟩ : ∃ R : ByteArray, (⟨(Lib.repeatL (⟨#[91]⟩ : ByteArray).data.toList k).toArray⟩ : ByteArray) = R := ⟨_, rfl⟩
  rw [hR] at HP
  have hRd : Hid (R.data.toList = List.replicate k 91) := Lib.hid (by
    rw [← hR]
    have := Lib.repeatL_replicate 91 1 k
    simpa using this)
  have hRs : R.size = k := by rw [← len_data, hRd.out, List.length_replicate]
  have hno : ¬ 9223372036854775807 < R.size + n.size := by omega
  have hRk := Lib.hid hRs
  clear hN hq hR hRs
  go_enter Try.func9, Try.ntmps9
  go_wp2_with fail
  refine (HR _).out.mono ?_
  rintro e w2 ⟨rfl, hb2⟩
  obtain ⟨b0, HB⟩ := one_new hb2
  have HS : w2.cell? ⟨w.heap.size, 0, none⟩ = some (.string n) ∧ w2.cell? ⟨w.heap.size, 1, none⟩ = some (.int .i64 k) ∧ KP w w2 n k q := KP.cells ⟨b0, HB⟩
  clear b0 HB hb2 HR
  go_wp2_with fail
  go_region_held3 (fun w' => w'.cell? ⟨w.heap.size, 0, none⟩ = some (.string n) ∧ w'.cell? ⟨w.heap.size, 1, none⟩ = some (.int .i64 k) ∧ KP w w' n k q)
    (first
      | exact held_next2 (Below.drew (Below.refl _ _)) HS
      | exact held_next2 (by assumption) (by assumption)
      | exact held_next2 (by assumption) ⟨by assumption, by assumption, by assumption⟩
      | go_keep)
    ((first | (go_at_call 27; refine (HP _).out.mono ?_; rintro e w' ⟨rfl, hb⟩)))
  all_goals
    have HK : KP w w' n k q := And.right (And.right (by assumption))
    obtain ⟨a0, a1, a2, g0, g1, g2⟩ := ty_cells HK.1
    have HB' := Lib.hid HK.2
    have hBs : (R ++ n).size = k + n.size := by rw [ByteArray.size_append, hRk.out]
    have HB0 : Hid ((R ++ n).data.toList = List.replicate k 91 ++ (n.data.toList ++ preT k q (k + 1))) := Lib.hid (by rw [cat_two, hRd.out, preT_start]; simp)
    clear HK hRd HS
    generalize R ++ n = T at *
    go_wp2_with fail
    go_loopg [4, 5] (k + 1) (fun g out iv wx => ∃ S : ByteArray, g ≤ k + 1 ∧ out = .string S ∧ iv = .int .i64 ((g : Int) - 1) ∧ Aside (S.data.toList = List.replicate k 91 ++ (n.data.toList ++ preT k q g)) ∧ S.size ≤ k + n.size + 2 * (k + 1 - g) ∧ wx = w')
    case atStart => exact ⟨T, by omega, rfl, by simp, Aside.intro HB0.out, by omega, rfl⟩
    case round =>
      obtain ⟨S, hg, rfl, hiv, H, hS, rfl⟩ := hrel
      cases gk with
      | zero =>
        have hE : Hid (S = (⟨(printW n.data.toList k q).toArray⟩ : ByteArray)) := Lib.hid (mk_of (by rw [H.out, printW, prD_eq, preT, if_neg (by omega)]; rfl)).symm
        subst hiv
        clear H
        go_wp2
        go_ret2
        exact ⟨ret_s hE.out, HB'.out⟩
      | succ i =>
        have ei : ((i + 1 : Nat) : Int) - 1 = (i : Int) := by omega
        rw [ei] at hiv
        subst hiv
        have hi4 : i ≤ 4 := by omega
        have hbit := bit_at hq' hi4
        have hsz : S.size ≤ 9030 := by omega
        have z0 : (0 : Int) ≤ (i : Int) := by omega
        by_cases hik : i < k
        · have hik' : (i : Int) < (k : Int) := by omega
          have q1 : (S.size : Int) + 1 = ((S.size + 1 : Nat) : Int) := by omega
          have q2 : ((S.size + 1 : Nat) : Int) + 1 = ((S.size + 1 + 1 : Nat) : Int) := by omega
          cases hb : q.testBit i
          · have HN : Hid ((S ++ ⟨#[93]⟩).data.toList = List.replicate k 91 ++ (n.data.toList ++ preT k q i)) := Lib.hid (by
              rw [cat_two, H.out, preT_step _ _ _ hik, bang, hb]; simp)
            rw [hb] at hbit
            simp only [Bool.false_eq_true, if_false] at hbit
            clear H
            go_wp2
            go_roundg i
            case measure => omega
            case rel => exact ⟨_, by omega, rfl, by go_num, Aside.intro HN.out, by simp [ByteArray.size_append]; show S.size + 1 ≤ _; omega, rfl⟩
          · have HN : Hid ((S ++ ⟨#[93]⟩ ++ ⟨#[33]⟩).data.toList = List.replicate k 91 ++ (n.data.toList ++ preT k q i)) := Lib.hid (by
              rw [cat_two, cat_two, H.out, preT_step _ _ _ hik, bang, hb]; simp)
            rw [hb] at hbit
            simp only [if_true] at hbit
            clear H
            go_wp2
            go_roundg i
            case measure => omega
            case rel => exact ⟨_, by omega, rfl, by go_num, Aside.intro HN.out, by simp [ByteArray.size_append]; show S.size + 1 + 1 ≤ _; omega, rfl⟩
        · obtain rfl : i = k := by omega
          have q1 : (S.size : Int) + 1 = ((S.size + 1 : Nat) : Int) := by omega
          cases hb : q.testBit i
          · have HN : Hid (S.data.toList = List.replicate i 91 ++ (n.data.toList ++ preT i q i)) := Lib.hid (by
              rw [H.out, preT_start, preT_last _ _ _ rfl, bang, hb]; simp)
            rw [hb] at hbit
            simp only [Bool.false_eq_true, if_false] at hbit
            clear H
            go_wp2
            go_roundg i
            case measure => omega
            case rel => exact ⟨_, by omega, rfl, by go_num, Aside.intro HN.out, by omega, rfl⟩
          · have HN : Hid ((S ++ ⟨#[33]⟩).data.toList = List.replicate i 91 ++ (n.data.toList ++ preT i q i)) := Lib.hid (by
              rw [cat_two, H.out, preT_start, preT_last _ _ _ rfl, bang, hb]; simp)
            rw [hb] at hbit
            simp only [if_true] at hbit
            clear H
            go_wp2
            go_roundg i
            case measure => omega
            case rel => exact ⟨_, by omega, rfl, by go_num, Aside.intro HN.out, by simp [ByteArray.size_append]; show S.size + 1 ≤ _; omega, rfl⟩
end Go.Proofs.Ytfinboplkjijhaa
