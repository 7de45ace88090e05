/- defs.ownEach over FieldDef. (gen_each.py wrote it.) -/
import Derived.Test.YtmamgaifpjgfkaaDfOwnF
namespace Go.Proofs.Ytmamgaifpjgfkaa
open Go.RowKit

theorem eachF_at {w : World} {P : Nat → Prop} {K g : Nat} {l : List FieldT} {q : Nat} {x : FieldT} (h : RowAt encField 6 46 P K g l w) (hx : l[q]? = some x) :
    ∃ c0 c1 c2 c3 c4 c5, TS w (fun b => OwnP P K w b ∧ b ≠ g) (encField x) [c0, c1, c2, c3, c4, c5] ∧ (w.cell? ⟨g, q * 6, none⟩ = some c0 ∧ w.cell? ⟨g, q * 6 + 1, none⟩ = some c1 ∧ w.cell? ⟨g, q * 6 + 2, none⟩ = some c2 ∧ w.cell? ⟨g, q * 6 + 3, none⟩ = some c3 ∧ w.cell? ⟨g, q * 6 + 4, none⟩ = some c4 ∧ w.cell? ⟨g, q * 6 + 5, none⟩ = some c5) ∧ w.frozen? ⟨g, q * 6, none⟩ = false ∧ w.frozen? ⟨g, q * 6 + 1, none⟩ = false ∧ w.frozen? ⟨g, q * 6 + 2, none⟩ = false ∧ w.frozen? ⟨g, q * 6 + 3, none⟩ = false ∧ w.frozen? ⟨g, q * 6 + 4, none⟩ = false ∧ w.frozen? ⟨g, q * 6 + 5, none⟩ = false := by
  obtain ⟨⟨cur, h1, h2⟩, h3⟩ := h
  obtain ⟨cs, h4, h5⟩ := h3 q x hx
  have hl : cs.length = 6 := by rw [h4.len, len_fld]
  have hq : q < l.length := (List.getElem?_eq_some_iff.1 hx).1
  match cs, hl with
  | [c0, c1, c2, c3, c4, c5], _ => exact ⟨c0, c1, c2, c3, c4, c5, h4, ⟨h5 0 _ rfl, h5 1 _ rfl, h5 2 _ rfl, h5 3 _ rfl, h5 4 _ rfl, h5 5 _ rfl⟩, cells_frozen h1 _, cells_frozen h1 _, cells_frozen h1 _, cells_frozen h1 _, cells_frozen h1 _, cells_frozen h1 _⟩
theorem six_low' {w0 w : World} {B b o : Nat} {c0 c1 c2 c3 c4 c5 : Value} (h : Below B w0 w) (hb : B ≤ b) : Below B w0 ((((((w.setCell ⟨b, o, none⟩ c0).setCell ⟨b, o + 1, none⟩ c1).setCell ⟨b, o + 2, none⟩ c2).setCell ⟨b, o + 3, none⟩ c3).setCell ⟨b, o + 4, none⟩ c4).setCell ⟨b, o + 5, none⟩ c5) :=
  (((((h.setCell hb _).setCell hb _).setCell hb _).setCell hb _).setCell hb _).setCell hb _
/-- Each one of one's own. -/
def EachF (l : List FieldT) (P : Nat → Prop) (w : World) (e : Ending) (w' : World) : Prop := ∃ A c, e = .returned (.slice A l.length c) ∧ RowT w' (OwnP P w.heap.size w') (rowOf encField l) A ∧ Below w.heap.size w w'
set_option maxRecDepth 100000 in
set_option maxHeartbeats 8000000 in
theorem eachF_any (l : List FieldT) (A : Option Addr) (c : Nat) (w : World) (P : Nat → Prop) (hP : ∀ b, P b → b < w.heap.size) (hz : l.length * 96 ≤ 140737488355328) (hs : ∀ x, x ∈ l → SlimF x) (hR : RowT w P (rowOf encField l) A) :
    Calls Try.prog 46 #[.slice A l.length c, .func (.func 43) #[] #[]] w (EachF l P w) := by
  have C := Lib.hid (clone_fld l A c w P hP hz hR)
  have hn : l.length ≤ 9223372036854775807 := by omega
  clear hz hR
  by_cases hp : 0 < l.length
  · go_enter Try.func46, Try.ntmps46
    go_wp2_with fail
    refine C.out.mono ?_
    rintro e w1 ⟨V, xs, rfl, h1, h2, h3⟩
    obtain ⟨g, c', rfl, hKg, hA⟩ := RowAt.start len_fld h1 h2 hP h3.size rfl hp
    have B1 := Lib.hid h3
    have HA := Lib.hid hA
    clear h1 h2 h3 hA C
    go_wp2_with fail
    go_loopg [12] l.length (fun gk i wx => ∃ q : Nat, q + gk = l.length ∧ i = .int .i64 q ∧ Aside (RowAt encField 6 46 P w.heap.size g l wx ∧ Below w.heap.size w wx))
    case atStart => exact ⟨0, by omega, rfl, Blk.Aside.intro ⟨HA.out, B1.out⟩⟩
    case round =>
      obtain ⟨q, hq, rfl, HX⟩ := hrel
      obtain ⟨hA, hb⟩ := HX.out
      have HAX := Lib.hid hA
      have HBB := Lib.hid hb
      clear HX hA hb HA
      cases gk with
      | zero =>
        obtain rfl : q = l.length := by omega
        go_wp2_with fail
        go_ret
        exact ⟨some ⟨g, 0, none⟩, c', rfl, HAX.out.row len_fld hKg, HBB.out⟩
      | succ gg =>
        have hqn : q < l.length := by omega
        have hqn' : (q : Int) < (l.length : Int) := by omega
        obtain ⟨x, hx⟩ : ∃ x, l[q]? = some x := ⟨_, List.getElem?_eq_getElem hqn⟩
        obtain ⟨c0, c1, c2, c3, c4, c5, hT, ⟨g0, g1, g2, g3, g4, g5⟩, f0, f1, f2, f3, f4, f5⟩ := eachF_at HAX.out hx
        have hsl := Lib.hid (hs x (List.mem_of_getElem? hx))
        have HT := Lib.hid hT
        have HXX := Lib.hid hx
        have hgl := HAX.out.lt
        have hso := HBB.out.size
        obtain ⟨Ap, kp, Ad, kd, e, _⟩ := fld_cells hT
        simp only [List.cons.injEq, and_true] at e
        obtain ⟨rfl, rfl, rfl, rfl, rfl, rfl⟩ := e
        have hC := Lib.hid (fun o => ownfld_any x (.string x.name) (.slice Ap x.params.length kp) (.string x.tn) (.int .i64 x.tl) (.int .i64 x.tm) (.slice Ad x.dirs.length kd) (wr.alloc o) (fun b => OwnP P w.heap.size wr b ∧ b ≠ g) (fun b h => Nat.lt_of_lt_of_le h.1.1 (dbelow_new wr o).size) hsl.out (TS.keep (fun b h => ⟨h, (dbelow_new wr o).block b h.1.1⟩) _ _ HT.out))
        clear hT hx f0 f1 f2 f3 f4 f5
        go_wp2_with fail
        refine (hC.out _).mono ?_
        rintro e w2 ⟨Ap3, kp3, Ad3, kd3, rfl, hT3, hb3⟩
        have hb2 := (dbelow_new wr (.cells #[.string x.name, .slice Ap x.params.length kp, .string x.tn, .int .i64 x.tl, .int .i64 x.tm, .slice Ad x.dirs.length kd] 46)).trans (hb3.mono (by simp))
        have A2' := Lib.hid (HAX.out.low hb2)
        have B2 := Lib.hid (HBB.out.trans (hb2.mono hso))
        have T2 := Lib.hid (TS.keep (P' := fun b => OwnP P w.heap.size w2 b ∧ b ≠ g) (fun b h => ⟨by
          rcases h.2 with h1 | h1
          · exact ⟨⟨h.1, h1.1.2⟩, h1.2⟩
          · have h4 : wr.heap.size + 1 ≤ b := by simpa using h1
            exact ⟨⟨h.1, .inr (by omega)⟩, by omega⟩, rfl⟩) _ _ hT3)
        obtain ⟨e0, e1, e2, e3, e4, e5, _, ⟨z0, z1, z2, z3, z4, z5⟩, y0, y1, y2, y3, y4, y5⟩ := eachF_at A2'.out HXX.out
        have hset := A2'.out.set len_fld HXX.out T2.out
        clear hT3 hb3 hb2 hC g0 g1 g2 g3 g4 g5
        obtain ⟨O, hO⟩ : ∃ O, q * 6 = O := ⟨_, rfl⟩
        rw [hO] at z0 z1 z2 z3 z4 z5 y0 y1 y2 y3 y4 y5 hset
        have HSet := Lib.hid hset
        clear hset
        go_wp2_with fail
        go_roundg gg
        case measure => omega
        case rel => exact ⟨q + 1, by omega, by go_num, Blk.Aside.intro ⟨HSet.out, six_low' B2.out hKg⟩⟩
  · have h0 : l.length = 0 := by omega
    have HL := Lib.hid h0
    obtain rfl : l = [] := List.eq_nil_of_length_eq_zero h0
    clear h0 hp hs hn
    go_enter Try.func46, Try.ntmps46
    go_wp2_with fail
    refine C.out.mono ?_
    rintro e w1 h1
    obtain ⟨A1, c1, rfl, _, hb1⟩ := cloned_row h1 rfl hP
    have B1 := Lib.hid hb1
    clear h1 hb1 C
    go_wp2_with fail
    go_loopg [12] 0 (fun gk i wx => gk = 0 ∧ i = .int .i64 0 ∧ Below w.heap.size w wx)
    case atStart => exact ⟨rfl, rfl, B1.out⟩
    case round =>
      obtain ⟨rfl, rfl, hb⟩ := hrel
      have HBB := Lib.hid hb
      clear hb
      go_wp2_with fail
      go_ret
      exact ⟨A1, c1, rfl, by rw [rowOf]; unfold RowT; trivial, HBB.out⟩
end Go.Proofs.Ytmamgaifpjgfkaa
