/- defs.ownEach over Dir. (gen_each.py wrote it.) -/
import Derived.Test.YtmamgaifpjgfkaaDfOwn
namespace Go.Proofs.Ytmamgaifpjgfkaa
open Go.RowKit

theorem eachD_at {w : World} {P : Nat → Prop} {K g : Nat} {l : List DirT} {q : Nat} {x : DirT} (h : RowAt encD 2 70 P K g l w) (hx : l[q]? = some x) :
    ∃ c0 c1, TS w (fun b => OwnP P K w b ∧ b ≠ g) (encD x) [c0, c1] ∧ (w.cell? ⟨g, q * 2, none⟩ = some c0 ∧ w.cell? ⟨g, q * 2 + 1, none⟩ = some c1) ∧ w.frozen? ⟨g, q * 2, none⟩ = false ∧ w.frozen? ⟨g, q * 2 + 1, none⟩ = false := by
  obtain ⟨⟨cur, h1, h2⟩, h3⟩ := h
  obtain ⟨cs, h4, h5⟩ := h3 q x hx
  have hl : cs.length = 2 := by rw [h4.len, len_dir]
  have hq : q < l.length := (List.getElem?_eq_some_iff.1 hx).1
  match cs, hl with
  | [c0, c1], _ => exact ⟨c0, c1, h4, ⟨h5 0 _ rfl, h5 1 _ rfl⟩, cells_frozen h1 _, cells_frozen h1 _⟩
/-- Each one of one's own. -/
def EachD (l : List DirT) (P : Nat → Prop) (w : World) (e : Ending) (w' : World) : Prop := ∃ A c, e = .returned (.slice A l.length c) ∧ RowT w' (OwnP P w.heap.size w') (rowOf encD l) A ∧ Below w.heap.size w w'
set_option maxRecDepth 100000 in
set_option maxHeartbeats 8000000 in
theorem eachD_any (l : List DirT) (A : Option Addr) (c : Nat) (w : World) (P : Nat → Prop) (hP : ∀ b, P b → b < w.heap.size) (hz : l.length * 40 ≤ 140737488355328) (hs : ∀ x, x ∈ l → x.2.len * 96 ≤ 140737488355328) (hR : RowT w P (rowOf encD l) A) :
    Calls Try.prog 54 #[.slice A l.length c, .func (.func 55) #[] #[]] w (EachD l P w) := by
  have C := Lib.hid (clone_dir l A c w P hP hz hR)
  have hn : l.length ≤ 9223372036854775807 := by omega
  clear hz hR
  by_cases hp : 0 < l.length
  · go_enter Try.func54, Try.ntmps54
    go_wp2_with fail
    refine C.out.mono ?_
    rintro e w1 ⟨V, xs, rfl, h1, h2, h3⟩
    obtain ⟨g, c', rfl, hKg, hA⟩ := RowAt.start len_dir h1 h2 hP h3.size rfl hp
    have B1 := Lib.hid h3
    have HA := Lib.hid hA
    clear h1 h2 h3 hA C
    go_wp2_with fail
    go_loopg [12] l.length (fun gk i wx => ∃ q : Nat, q + gk = l.length ∧ i = .int .i64 q ∧ Aside (RowAt encD 2 70 P w.heap.size g l wx ∧ Below w.heap.size w wx))
    case atStart => exact ⟨0, by omega, rfl, Blk.Aside.intro ⟨HA.out, B1.out⟩⟩
    case round =>
      obtain ⟨q, hq, rfl, HX⟩ := hrel
      obtain ⟨hA, hb⟩ := HX.out
      have HAX := Lib.hid hA
      have HBB := Lib.hid hb
      clear HX hA hb HA
      cases gk with
      | zero =>
        obtain rfl : q = l.length := by omega
        go_wp2_with fail
        go_ret
        exact ⟨some ⟨g, 0, none⟩, c', rfl, HAX.out.row len_dir hKg, HBB.out⟩
      | succ gg =>
        have hqn : q < l.length := by omega
        have hqn' : (q : Int) < (l.length : Int) := by omega
        obtain ⟨x, hx⟩ : ∃ x, l[q]? = some x := ⟨_, List.getElem?_eq_getElem hqn⟩
        obtain ⟨c0, c1, hT, ⟨g0, g1⟩, f0, f1⟩ := eachD_at HAX.out hx
        have hsl := Lib.hid (hs x (List.mem_of_getElem? hx))
        have HT := Lib.hid hT
        have HXX := Lib.hid hx
        have hgl := HAX.out.lt
        have hso := HBB.out.size
        obtain ⟨A2, k2, e, _⟩ := dir_cells hT
        simp only [List.cons.injEq, and_true] at e
        obtain ⟨rfl, rfl⟩ := e
        have hC := Lib.hid (fun o => owndir_any x (.string x.1) (.slice A2 x.2.len k2) (wr.alloc o) (fun b => OwnP P w.heap.size wr b ∧ b ≠ g) (fun b h => Nat.lt_of_lt_of_le h.1.1 (dbelow_new wr o).size) hsl.out (TS.keep (fun b h => ⟨h, (dbelow_new wr o).block b h.1.1⟩) _ _ HT.out))
        clear hT hx f0 f1
        go_wp2_with fail
        refine (hC.out _).mono ?_
        rintro e w2 ⟨A3, k3, rfl, hT3, hb3⟩
        have hb2 := (dbelow_new wr (.cells #[.string x.1, .slice A2 x.2.len k2] 70)).trans (hb3.mono (by simp))
        have A2' := Lib.hid (HAX.out.low hb2)
        have B2 := Lib.hid (HBB.out.trans (hb2.mono hso))
        have T2 := Lib.hid (TS.keep (P' := fun b => OwnP P w.heap.size w2 b ∧ b ≠ g) (fun b h => ⟨by
          rcases h.2 with h1 | h1
          · exact ⟨⟨h.1, h1.1.2⟩, h1.2⟩
          · have h4 : wr.heap.size + 1 ≤ b := by simpa using h1
            exact ⟨⟨h.1, .inr (by omega)⟩, by omega⟩, rfl⟩) _ _ hT3)
        obtain ⟨e0, e1, _, ⟨z0, z1⟩, y0, y1⟩ := eachD_at A2'.out HXX.out
        clear hT3 hb3 hb2 hC g0 g1
        go_wp2_with fail
        go_roundg gg
        case measure => omega
        case rel => exact ⟨q + 1, by omega, by go_num, Blk.Aside.intro ⟨A2'.out.set len_dir HXX.out T2.out, (B2.out.setCell (p := ⟨g, q * 2, none⟩) hKg _).setCell (p := ⟨g, q * 2 + 1, none⟩) hKg _⟩⟩
  · have h0 : l.length = 0 := by omega
    have HL := Lib.hid h0
    obtain rfl : l = [] := List.eq_nil_of_length_eq_zero h0
    clear h0 hp hs hn
    go_enter Try.func54, Try.ntmps54
    go_wp2_with fail
    refine C.out.mono ?_
    rintro e w1 h1
    obtain ⟨A1, c1, rfl, _, hb1⟩ := cloned_row h1 rfl hP
    have B1 := Lib.hid hb1
    clear h1 hb1 C
    go_wp2_with fail
    go_loopg [12] 0 (fun gk i wx => gk = 0 ∧ i = .int .i64 0 ∧ Below w.heap.size w wx)
    case atStart => exact ⟨rfl, rfl, B1.out⟩
    case round =>
      obtain ⟨rfl, rfl, hb⟩ := hrel
      have HBB := Lib.hid hb
      clear hb
      go_wp2_with fail
      go_ret
      exact ⟨A1, c1, rfl, by rw [rowOf]; unfold RowT; trivial, HBB.out⟩
end Go.Proofs.Ytmamgaifpjgfkaa
