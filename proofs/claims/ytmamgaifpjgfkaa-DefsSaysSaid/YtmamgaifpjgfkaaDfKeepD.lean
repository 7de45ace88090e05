/- seinekeep.Dirs: a row of directives, copied deep. -/
import Derived.Test.YtmamgaifpjgfkaaDfKeepP
import Derived.Test.YtmamgaifpjgfkaaDfOwn
import Derived.Test.YtmamgaifpjgfkaaVCopy3
import Derived.Test.YtmamgaifpjgfkaaPaSame
namespace Go.Proofs.Ytmamgaifpjgfkaa
open Go.RowKit

theorem info_dirk : (Try.prog.info? 70).map (fun i => (i.zero, i.size, i.bytes)) = some (some (.agg #[.string ⟨#[]⟩, .slice none 0 0]), 2, 40) := by kernel_rfl
theorem two_newc (w : World) (a0 a1 : Value) (t : TypeId) {n : Nat} (hn : n = w.heap.size) : ∀ (j : Nat) u, [a0, a1][j]? = some u → (w.alloc (.cells #[a0, a1] t)).cell? ((⟨n, 0, none⟩ : Addr).add j) = some u := by
  subst hn
  intro j u hu
  rw [add_at, Nat.zero_add]
  match j, hu with
  | 0, hu => cases hu; rw [World.cell?_alloc_at _ _ _ _ rfl]; rfl
  | 1, hu => cases hu; rw [World.cell?_alloc_at _ _ _ _ rfl]; rfl
theorem rowOf_sn {α : Type} {f : α → TrS} (x : α) : ∀ l : List α, rowOf f (l ++ [x]) = (rowOf f l).snoc (f x)
  | [] => rfl
  | a :: t => by rw [List.cons_append, rowOf, rowOf_sn x t, rowOf, TrL.snoc]
/-- The row that is being built. -/
def RD (base : Nat) (W : World) (V : Value) (q : Nat) (l : List DirT) : Prop := ∃ xs P, W.ownsRow base 70 2 V q xs ∧ TLV W P (rowOf encD l) xs ∧ ∀ b, P b → base ≤ b ∧ b < W.heap.size ∧ V.ownBlock ≠ some b
theorem RD.start (base : Nat) (W : World) : RD base W (.slice none 0 0) 0 [] := ⟨[], fun _ => False, World.ownsRow_nil _ _ _ _, rfl, fun _ h => h.elim⟩
theorem RD.next {base q cap g : Nat} {wr w2 w4 : World} {V : Value} {l : List DirT} {x : DirT} {o : Obj} {xs : List Value} {P : Nat → Prop} {d0 d1 : Value} (hbase : base ≤ wr.heap.size) (hown : wr.ownsRow base 70 2 V q xs) (hv : TLV wr P (rowOf encD l) xs) (hP : ∀ b, P b → base ≤ b ∧ b < wr.heap.size ∧ V.ownBlock ≠ some b)
    (hb : Below wr.heap.size wr w2) (hd : TS w2 (Fresh wr w2) (encD x) [d0, d1]) (hown4 : w4.ownsRow base 70 2 (.slice (some ⟨g, 0, none⟩) (q + 1) cap) (q + 1) (xs ++ [d0, d1])) (hg : (w2.alloc o).grownBy w4 V.ownBlock) (hat : V.ownBlock = some g ∨ g = (w2.alloc o).heap.size) :
    RD base w4 (.slice (some ⟨g, 0, none⟩) (q + 1) cap) (q + 1) (l ++ [x]) := by
  obtain ⟨h1, h2, h3⟩ := step_blocks hbase (fun k hk => (hown.lt k hk).2) hP hb hg hat
  exact ⟨_, fun b => P b ∨ Fresh wr w2 b, hown4, by rw [rowOf_sn]; exact TLV.snoc (TS.keep h2 _ _ hd) (hv.keep h1), h3⟩
def KDs (l : List DirT) (w : World) (e : Ending) (w' : World) : Prop := ∃ A c, e = .returned (.slice A l.length c) ∧ RowT w' (Fresh w w') (rowOf encD l) A ∧ Below w.heap.size w w'
theorem Two.next {W W' : World} {b O : Nat} {x y : Value} (h : W.cell? ⟨b, O, none⟩ = some x ∧ W.cell? ⟨b, O + 1, none⟩ = some y) (hb : W'.heap[b]? = W.heap[b]?) : W'.cell? ⟨b, O, none⟩ = some x ∧ W'.cell? ⟨b, O + 1, none⟩ = some y :=
  ⟨(World.cell?_of_block (a := ⟨b, _, none⟩) hb).trans h.1, (World.cell?_of_block (a := ⟨b, _, none⟩) hb).trans h.2⟩
set_option maxRecDepth 100000 in
set_option maxHeartbeats 8000000 in
theorem kdirs_any (l : List DirT) (A : Option Addr) (c : Nat) (w : World) (B : Nat) (hB : B ≤ w.heap.size) (hz : l.length * 40 ≤ 140737488355328) (hs : ∀ x, x ∈ l → x.2.len * 96 ≤ 140737488355328 ∧ SlimM x.2) (hR : RowT w (fun b => b < B) (rowOf encD l) A) :
    Calls Try.prog 26 #[.slice A l.length c] w (KDs l w) := by
  obtain ⟨i0, hi, hz0, hz1, hz2⟩ := info_parts1 info_dirk
  have HB0 := Lib.hid hB
  have HR := Lib.hid hR
  have HSM := Lib.hid hs
  clear hs hB hR
  go_enter Try.func26, Try.ntmps26
  go_wp2_with fail
  go_loopg [3, 4] l.length (fun g out i wx => ∃ q : Nat, q + g = l.length ∧ i = .int .i64 q ∧ Below w.heap.size w wx ∧ Aside (RD w.heap.size wx out q (l.take q)))
  case atStart => exact ⟨0, by omega, rfl, Below.refl _ _, vaside (by rw [List.take_zero]; exact RD.start _ _)⟩
  case round =>
    obtain ⟨q, hq, rfl, hb, HA⟩ := hrel
    have HBB := Lib.hid hb
    have hws := hb.size
    obtain ⟨xs, P, hown, hvals, hP⟩ := HA.out
    obtain ⟨Ao, co, rfl⟩ := shape_own hown
    have HO := Lib.hid hown
    have HV := Lib.hid hvals
    have HP := Lib.hid hP
    clear hb hvals hP HA hown
    cases gk with
    | zero =>
      obtain rfl : q = l.length := by omega
      go_wp2_with fail
      go_ret
      have hv2 := HV.out
      rw [List.take_length] at hv2
      obtain ⟨A6, c6, e6, hL6⟩ := row_tl (by rw [rowOf_len]; exact HO.out) hv2
      rw [rowOf_len] at e6
      refine ⟨A6, c6, by rw [← e6]; rfl, RowT.keep (fun b hb => ⟨?_, rfl⟩) _ _ hL6, HBB.out⟩
      rcases hb with hb | hb
      · exact ⟨(HP.out b hb).1, (HP.out b hb).2.1⟩
      · exact HO.out.lt b hb
    | succ g =>
      have hqn : q < l.length := by omega
      have hqn' : (q : Int) < (l.length : Int) := by omega
      obtain ⟨⟨nm, m⟩, hv⟩ : ∃ x, l[q]? = some x := ⟨_, List.getElem?_eq_getElem hqn⟩
      obtain ⟨b, o, cs, rfl, hblt, hc, hT⟩ := rowOf_at 2 encD_len (RowT.below (HBB.out.mono HB0.out) HR.out) hv
      obtain ⟨Am, km, rfl, hns, hml, hM⟩ := dir_cells hT
      have hbw : b < w.heap.size := Nat.lt_of_lt_of_le hblt HB0.out
      have h2 : wr.cell? ⟨b, o + q * 2, none⟩ = some (.string nm) ∧ wr.cell? ⟨b, o + q * 2 + 1, none⟩ = some (.slice Am m.len km) := ⟨hc 0 _ rfl, hc 1 _ rfl⟩
      obtain ⟨f0, f1⟩ := h2
      have h2 : wr.cell? ⟨b, o + q * 2, none⟩ = some (.string nm) ∧ wr.cell? ⟨b, o + q * 2 + 1, none⟩ = some (.slice Am m.len km) := ⟨f0, f1⟩
      have hsm := HSM.out _ (List.mem_of_getElem? hv)
      have C := fun (wx : World) (hx : Below wr.heap.size wr wx) => Lib.hid (copym_any m hsm.1 hsm.2 Am km wx B (Nat.le_trans HB0.out (Nat.le_trans HBB.out.size hx.size)) hml (mat_of (RowT.below (hx.mono (Nat.le_trans HB0.out HBB.out.size)) hM)))
      have hnx : Hid (l.take (q + 1) = l.take q ++ [(nm, m)]) := Lib.hid (by rw [List.take_add_one, hv]; rfl)
      clear hT hM hc hv hsm
      go_wp2_with fail
      go_region_held3 (fun w' => w'.cell? ⟨b, o + q * 2, none⟩ = some (.string nm) ∧ w'.cell? ⟨b, o + q * 2 + 1, none⟩ = some (.slice Am m.len km))
        (first
          | exact Two.next h2 rfl
          | exact Two.next (W := wr.drew) h2 (hb2.block b (by show b < wr.heap.size; omega))
          | exact Two.next (W := wr.drew) h2 ((hgrow.block b (by have := hb2.size; simp at this ⊢; omega) (fun e => by have := (HO.out.lt b e.symm).1; omega)).trans ((Below.heap_alloc _ _ _ (by have := hb2.size; simp at this; omega)).trans (hb2.block b (by show b < wr.heap.size; omega))))
          | go_keep)
        ((first
          | (go_at_call 44; refine (C _ (Below.drew (Below.refl _ _))).out.mono ?_; rintro e w2 ⟨A3, c3, rfl, hd, hb2⟩; have HD := Lib.hid hd; clear hd)
          | (refine step_append_lies _ (by rfl) _ _ _ (by rfl) w.heap.size 70 i0 _ 2 40 Try.underlying44 hi hz0 hz1 hz2 rfl (by omega) (.slice Ao q co) q xs (by rfl) ((own_low (HO.out.drew) hb2).alloc _)
              ⟨w2.heap.size, 0, none⟩ 1 1 [.string nm, .slice A3 m.len c3] (by rfl) (by rfl) (two_newc _ _ _ _ (by simp)) (by intro y hy; simp at hy; rcases hy with rfl | rfl <;> rfl)
              (by omega) (by unfold maxLen; omega) (by omega) (by have := hb2.size; simp at this ⊢; omega) _ (by rfl) ?_; intro gg cap2 w4 hown4 hgrow hat hlt4)))
      have HO4 := Lib.hid hown4
      have HG4 := Lib.hid hgrow
      have HT4 := Lib.hid hat
      have HB2 : Hid (Below wr.heap.size wr w2) := Lib.hid ((Below.drew (Below.refl _ _)).trans hb2)
      have HB4 : Hid (Below w.heap.size w w4) := Lib.hid (((HBB.out.trans (HB2.out.mono HBB.out.size)).alloc (Nat.le_trans HBB.out.size HB2.out.size) _).grown hgrow (by have := HB2.out.size; simp; omega) (fun k hk => (HO.out.lt k hk).1))
      have HTS : Hid (TS w2 (Fresh wr w2) (encD (nm, m)) [.string nm, .slice A3 m.len c3]) := Lib.hid (dir_ts hns hml (by have h := mp_tl m A3 0 HD.out; rw [Nat.zero_mul, shiftA_zero] at h; exact h))
      clear C hown4 hgrow hat hb2 f0 f1 h2 hns hml HD
      go_wp2_with fail
      go_roundg g
      case measure => omega
      case rel => exact ⟨q + 1, by omega, by go_num, HB4.out, vaside (by rw [hnx.out]; exact RD.next hws HO.out HV.out HP.out HB2.out HTS.out HO4.out HG4.out HT4.out)⟩
end Go.Proofs.Ytmamgaifpjgfkaa
