/- The walks of token's mark and word. -/
import Derived.Test.YtcdcfhplkimecaaGreatDoorTNum2
import Derived.Deep.WholeRow
namespace Go.Proofs.YtcdcfhplkimecaaGreatDoor
open Go.RowKit

/-- The end of a function that answers a token (out of a cell) and a number. -/
theorem ret_tok {R : Ending → World → Prop} {fn : Func} {a : Act} {W : World} {k v : Value} {b : Nat} (hf : fn.results = #[.cell 2 41, .tmp 3]) (h2 : a.tmps.getD 2 undef = .pointer (some ⟨b, 0, none⟩)) (hd : a.defers = [])
    (hc : W.heap[b]? = some (.cells #[k, v] 41 (0, 0))) (hR : R (.returned (.tuple #[.agg #[k, v], a.tmps.getD 3 undef])) W) : bodyPost Tryz.prog fn R .ret a W := by
  have hl : (loadVar 41 ⟨b, 0, none⟩).run Tryz.prog W = .ok (.agg #[k, v]) W :=
    run_loadVar_row W b 41 41 #[k, v] (0, 0) _ hc Tryz.underlying41 rfl (by kernel_rfl)
  refine bodyPost_ret ?_ hd hR
  have h2' : a.tmps[2]?.getD undef = .pointer (some ⟨b, 0, none⟩) := by rw [← h2]; simp
  simp [results, hf, h2', asAddr, hl]
theorem below_new {w : World} {cs : Array Value} {t : TypeId} : Below w.heap.size w (w.alloc (.cells cs t)) := (Below.refl _ _).alloc (Nat.le_refl _) _
theorem ret_t {k n m : Int} {x y : ByteArray} (hx : x = y) (h : n = m) : Ending.returned (.tuple #[.agg #[.int .i64 k, .string x], .int .i64 n]) = .returned (.tuple #[.agg #[.int .i64 k, .string y], .int .i64 m]) := by rw [hx, h]

/-- What mark, word, number and quote answer: the token and its length; nothing and 0. -/
def tokS (k : Int) (l : List UInt8) (n : Nat) : Value := if n = 0 then .tuple #[.agg #[.int .i64 0, .string ⟨#[]⟩], .int .i64 0] else .tuple #[.agg #[.int .i64 k, .string ⟨l.toArray⟩], .int .i64 n]
theorem tokS_no (k : Int) (l : List UInt8) : tokS k l 0 = .tuple #[.agg #[.int .i64 0, .string ⟨#[]⟩], .int .i64 0] := rfl
theorem tokS_yes {k : Int} {l : List UInt8} {n : Nat} (h : n ≠ 0) : tokS k l n = .tuple #[.agg #[.int .i64 k, .string ⟨l.toArray⟩], .int .i64 n] := if_neg h

theorem idx_marks : ∀ b : UInt8, decide (Lib.indexByte [33, 36, 38, 40, 41, 58, 61, 64, 91, 93, 123, 124, 125] b < 0) = !isMark b := byte_all (by decide +kernel)

set_option maxRecDepth 100000 in
theorem mark_any (s : ByteArray) (w : World) : Calls Tryz.prog 20 #[.string s] w fun e w' => e = .returned (tokS 1 (s.data.toList.take (markN s.data.toList)) (markN s.data.toList)) ∧ Below w.heap.size w w' := by
  cases hp : pre [46, 46, 46] s.data.toList
  · have HP := Lib.hid (hasP s ⟨#[46, 46, 46]⟩ (w.alloc (.cells #[.int .i64 0, .string ⟨#[]⟩] 41)) false hp)
    rcases Nat.eq_zero_or_pos s.size with h0 | h0
    · have hr : Hid (markN s.data.toList = 0) := Lib.hid (by rw [nil_of_size h0]; rfl)
      have he := empty_yes h0
      clear hp
      go_enter Tryz.func20, Tryz.ntmps20
      go_wp2_with fail
      refine HP.out.mono ?_
      rintro e w1 ⟨rfl, rfl⟩
      go_wp2_with fail
      refine ret_tok rfl rfl rfl (heap_alloc_last _ _) ⟨?_, below_new⟩
      rw [hr.out]
      rfl
    · have he := empty_no h0
      have hm : markN s.data.toList = if isMark s[0] then 1 else 0 := by
        rw [cons_at s h0] at hp ⊢
        simp only [markN, hp]
        rfl
      have hI := indexByte_any ⟨#[33, 36, 38, 40, 41, 58, 61, 64, 91, 93, 123, 124, 125]⟩ (s[0].toNat : Int) (w.alloc (.cells #[.int .i64 0, .string ⟨#[]⟩] 41))
      have hx := idx_marks s[0]
      rw [show ((s[0].toNat : Int).toNat.toUInt8) = s[0] by simp] at hI
      obtain ⟨r, hR⟩ : ∃ r, Lib.indexByte (⟨#[33, 36, 38, 40, 41, 58, 61, 64, 91, 93, 123, 124, 125]⟩ : ByteArray).data.toList s[0] = r := ⟨_, rfl⟩
      rw [hR] at hI
      have hx' : decide (r < 0) = !isMark s[0] := by rw [← hR]; exact hx
      have HI := Lib.hid hI
      clear hx hI hR hp
      cases hb : isMark s[0]
      · have hr : Hid (markN s.data.toList = 0) := Lib.hid (by rw [hm, hb]; rfl)
        have hneg : r < 0 := by rw [hb] at hx'; simpa using hx'
        clear hm hb hx'
        go_enter Tryz.func20, Tryz.ntmps20
        go_wp2_with fail
        refine HP.out.mono ?_
        rintro e w1 ⟨rfl, rfl⟩
        go_wp2_with fail
        refine HI.out.mono ?_
        rintro e w1 ⟨rfl, rfl⟩
        go_wp2_with fail
        refine ret_tok rfl rfl rfl (heap_alloc_last _ _) ⟨?_, below_new⟩
        rw [hr.out]
        rfl
      · have hr : Hid (markN s.data.toList = 1) := Lib.hid (by rw [hm, hb]; rfl)
        have hneg : ¬ r < 0 := by rw [hb] at hx'; simpa using hx'
        have h1 : 1 ≤ s.size := h0
        clear hm hb hx'
        go_enter Tryz.func20, Tryz.ntmps20
        go_wp2_with fail
        refine HP.out.mono ?_
        rintro e w1 ⟨rfl, rfl⟩
        go_wp2_with fail
        refine HI.out.mono ?_
        rintro e w1 ⟨rfl, rfl⟩
        go_wp2_with fail
        refine ret_tok rfl rfl rfl (heap_alloc_last _ _) ⟨?_, below_new⟩
        rw [hr.out, tokS_yes (by omega)]
        exact ret_t (mk_of (ext_take s 1)).symm rfl
  · have HP := Lib.hid (hasP s ⟨#[46, 46, 46]⟩ (w.alloc (.cells #[.int .i64 0, .string ⟨#[]⟩] 41)) true hp)
    have hr : Hid (markN s.data.toList = 3 ∧ s.data.toList.take 3 = [46, 46, 46]) := Lib.hid (by
      have h3 := pre_len hp
      rw [len_data] at h3
      refine ⟨?_, ?_⟩
      · have h0 : 0 < s.size := by simp at h3; omega
        rw [cons_at s h0] at hp ⊢
        simp only [markN, hp]
        rfl
      · unfold pre at hp
        rw [List.isPrefixOf_iff_prefix] at hp
        exact (List.prefix_iff_eq_take.1 hp).symm)
    clear hp
    go_enter Tryz.func20, Tryz.ntmps20
    go_wp2_with fail
    refine HP.out.mono ?_
    rintro e w1 ⟨rfl, rfl⟩
    go_wp2_with fail
    refine ret_tok rfl rfl rfl (heap_alloc_last _ _) ⟨?_, below_new⟩
    rw [hr.out.1, hr.out.2, tokS_yes (by omega)]
    rfl
end Go.Proofs.YtcdcfhplkimecaaGreatDoor
