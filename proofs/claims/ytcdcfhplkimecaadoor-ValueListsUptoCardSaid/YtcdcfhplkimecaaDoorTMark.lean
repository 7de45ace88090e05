/- The walks of token's mark and word. -/
import Derived.Test.YtcdcfhplkimecaaDoorTNum2
import Derived.Deep.WholeRow
namespace Go.Proofs.YtcdcfhplkimecaaDoor
open Go.RowKit

/-- The end of a function that answers a token (out of a cell) and a number. -/
theorem ret_tok {R : Ending → World → Prop} {fn : Func} {a : Act} {W : World} {k v : Value} {b : Nat} (hf : fn.results = #[.cell 2 49, .tmp 3]) (h2 : a.tmps.getD 2 undef = .pointer (some ⟨b, 0, none⟩)) (hd : a.defers = [])
    (hc : W.heap[b]? = some (.cells #[k, v] 49 (0, 0))) (hR : R (.returned (.tuple #[.agg #[k, v], a.tmps.getD 3 undef])) W) : bodyPost Tryd.prog fn R .ret a W := by
  have hl : (loadVar 49 ⟨b, 0, none⟩).run Tryd.prog W = .ok (.agg #[k, v]) W :=
    run_loadVar_row W b 49 49 #[k, v] (0, 0) _ hc Tryd.underlying49 rfl (by kernel_rfl)
  refine bodyPost_ret ?_ hd hR
  have h2' : a.tmps[2]?.getD undef = .pointer (some ⟨b, 0, none⟩) := by rw [← h2]; simp
  simp [results, hf, h2', asAddr, hl]
theorem below_new {w : World} {cs : Array Value} {t : TypeId} : Below w.heap.size w (w.alloc (.cells cs t)) := (Below.refl _ _).alloc (Nat.le_refl _) _
theorem ret_t {k n m : Int} {x y : ByteArray} (hx : x = y) (h : n = m) : Ending.returned (.tuple #[.agg #[.int .i64 k, .string x], .int .i64 n]) = .returned (.tuple #[.agg #[.int .i64 k, .string y], .int .i64 m]) := by rw [hx, h]

/-- What mark, word, number and quote answer: the token and its length; nothing and 0. -/
def tokS (k : Int) (l : List UInt8) (n : Nat) : Value := if n = 0 then .tuple #[.agg #[.int .i64 0, .string ⟨#[]⟩], .int .i64 0] else .tuple #[.agg #[.int .i64 k, .string ⟨l.toArray⟩], .int .i64 n]
theorem tokS_no (k : Int) (l : List UInt8) : tokS k l 0 = .tuple #[.agg #[.int .i64 0, .string ⟨#[]⟩], .int .i64 0] := rfl
theorem tokS_yes {k : Int} {l : List UInt8} {n : Nat} (h : n ≠ 0) : tokS k l n = .tuple #[.agg #[.int .i64 k, .string ⟨l.toArray⟩], .int .i64 n] := if_neg h

theorem idx_marks : ∀ b : UInt8, decide (Lib.indexByte [33, 36, 38, 40, 41, 58, 61, 64, 91, 93, 123, 124, 125] b < 0) = !isMark b := byte_all (by decide +kernel)

end Go.Proofs.YtcdcfhplkimecaaDoor
