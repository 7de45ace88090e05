/- The walk of Number; worlds that keep what the package needs; the law's own examples. -/
import Derived.Test.YtcdcfhplkimecaaGreatDoorTReads
namespace Go.Proofs.YtcdcfhplkimecaaGreatDoor
open Go.RowKit

theorem number_zero {l : List UInt8} (h : (numberL l).1 = 0) : (numberL l).2 = 0 := by
  unfold numberL at *
  by_cases h0 : (numeralL l).1 = 0
  · rw [if_pos h0]
  · rw [if_neg h0] at h ⊢
    cases hb : behindB (l.drop (numeralL l).1)
    · rw [hb] at h; exact absurd h h0
    · rfl

set_option maxRecDepth 100000 in
theorem numberf_any (s : ByteArray) (w : World) (hs : s.size ≤ 9000) : Calls Tryz.prog 32 #[.string s] w fun e w' => e = .returned (.int .i64 (kindL s.data.toList)) ∧ Below w.heap.size w w' := by
  have hN := number_any s w hs
  have hk : kindL s.data.toList = if (numberL s.data.toList).1 < s.size then 0 else (numberL s.data.toList).2 := by unfold kindL; rw [len_data]
  have hz := fun h => number_zero (l := s.data.toList) h
  obtain ⟨n, hn⟩ : ∃ n, (numberL s.data.toList).1 = n := ⟨_, rfl⟩
  obtain ⟨k, hkk⟩ : ∃ k, (numberL s.data.toList).2 = k := ⟨_, rfl⟩
  rw [hn, hkk] at hN hk hz
  have hT : ∃ x : ByteArray, tokS k (s.data.toList.take n) n = .tuple #[.agg #[.int .i64 k, .string x], .int .i64 n] := by
    by_cases h0 : n = 0
    · rw [hz h0, h0]; exact ⟨_, rfl⟩
    · exact ⟨_, tokS_yes h0⟩
  obtain ⟨x, hx⟩ := hT
  rw [hx] at hN
  have HN := Lib.hid hN
  clear hN hx hz hn hkk
  by_cases hlt : n < s.size
  · have hlt' : (n : Int) < (s.size : Int) := by omega
    have hr : Hid (kindL s.data.toList = 0) := Lib.hid (by rw [hk, if_pos hlt])
    clear hk
    go_enter Tryz.func32, Tryz.ntmps32
    go_wp2_with fail
    refine HN.out.mono ?_
    rintro e w1 ⟨rfl, hb⟩
    have HB := Lib.hid hb
    have hbs := hb.size
    clear hb
    go_wp2_with fail
    go_ret
    exact ⟨ret_i (by rw [hr.out]), HB.out.alloc hbs _⟩
  · have hlt' : ¬ (n : Int) < (s.size : Int) := by omega
    have hr : Hid (kindL s.data.toList = k) := Lib.hid (by rw [hk, if_neg hlt])
    clear hk
    go_enter Tryz.func32, Tryz.ntmps32
    go_wp2_with fail
    refine HN.out.mono ?_
    rintro e w1 ⟨rfl, hb⟩
    have HB := Lib.hid hb
    have hbs := hb.size
    clear hb
    go_wp2_with fail
    go_ret
    exact ⟨ret_i (by rw [hr.out]), HB.out.alloc hbs _⟩

/-- A slice of tokens that reads as ts. -/
def ToksAt (w : World) (A : Option Addr) (cap : Nat) (ts : List (Int × List UInt8)) : Prop := (∀ (j : Nat) v, (tokVals ts)[j]? = some v → ∃ g, A = some ⟨g, 0, none⟩ ∧ g < w.heap.size ∧ w.cell? ⟨g, j, none⟩ = some v) ∧ ts.length ≤ cap
theorem ToksAt.on {w w' : World} {A : Option Addr} {cap : Nat} {ts : List (Int × List UInt8)} (h : ToksAt w A cap ts) (hb : Below w.heap.size w w') : ToksAt w' A cap ts :=
  ⟨fun j v hv => by
    obtain ⟨g, hA, hg, hc⟩ := h.1 j v hv
    exact ⟨g, hA, by have := hb.size; omega, (hb.cell (p := ⟨g, j, none⟩) hg).trans hc⟩, h.2⟩
theorem toks_own {w : World} {base : Nat} {A : Option Addr} {cap : Nat} {ts : List (Int × List UInt8)} (h : w.ownsRow base 41 2 (.slice A ts.length cap) ts.length (tokVals ts)) : ToksAt w A cap ts := by
  rcases h.2 with ⟨hv, hn⟩ | ⟨g, c, cur, hv, hbase, hh, hnc, hm, hcs, htk⟩
  · have hus : ts = [] := List.eq_nil_of_length_eq_zero hn
    subst hus
    injection hv with h1 h2 h3
    exact ⟨fun j v hv => by simp [tokVals] at hv, by simp⟩
  · have hv' := hv
    injection hv' with h1 h2 h3
    subst h1 h3
    refine ⟨fun j v hv => ⟨g, rfl, (h.lt g rfl).2, ?_⟩, hnc⟩
    have hjl := (List.getElem?_eq_some_iff.1 hv).1
    rw [tokVals_len] at hjl
    rw [World.ownsRow.cellAt h j hjl, hv]
theorem ToksAt.one {w : World} {A : Option Addr} {cap : Nat} {k : Int} {x : List UInt8} (h : ToksAt w A cap [(k, x)]) : ∃ g, A = some ⟨g, 0, none⟩ ∧ g < w.heap.size ∧ w.cell? ⟨g, 0, none⟩ = some (.int .i64 k) ∧ w.cell? ⟨g, 1, none⟩ = some (.string ⟨x.toArray⟩) := by
  obtain ⟨g, hA, hg, h0⟩ := h.1 0 _ rfl
  obtain ⟨g', hA', _, h1⟩ := h.1 1 _ rfl
  subst hA
  injection hA' with e
  injection e with e1
  subst e1
  exact ⟨g, rfl, hg, h0, h1⟩

/-- What the laws keep. -/
def K3 (w wx : World) : Prop := Laid3 wx ∧ Below w.heap.size w wx
theorem K3.start {w : World} (h : Laid3 w) : K3 w w := ⟨h, Below.refl _ _⟩
theorem K3.next {w wx wy : World} (h : K3 w wx) (hb : Below wx.heap.size wx wy) : K3 w wy := ⟨h.1.below hb, h.2.trans (hb.mono h.2.size)⟩
theorem K3.alloc {w wx : World} (h : K3 w wx) (o : Obj) : K3 w (wx.alloc o) := h.next ((Below.refl _ _).alloc (Nat.le_refl _) o)
theorem read_k {w wx : World} (K : K3 w wx) (s : ByteArray) (hs : s.size ≤ 9000) (ts : List (Int × List UInt8)) (er : Int) (hr : readS s.data.toList = (ts, er)) : Calls Tryz.prog 8 #[.string s] wx fun e w' => ∃ A cap, e = .returned (.tuple #[.slice A ts.length cap, .int .i64 er]) ∧ ToksAt w' A cap ts ∧ K3 w w' ∧ Below wx.heap.size wx w' :=
  (read_any s wx hs K.1).mono fun _ _ ⟨A, cap, he, ho, hb⟩ => by
    rw [hr] at he ho
    exact ⟨A, cap, he, toks_own ho, K.next hb, hb⟩
theorem number_k {w wx : World} (K : K3 w wx) (s : ByteArray) (hs : s.size ≤ 9000) (k : Int) (hr : kindL s.data.toList = k) : Calls Tryz.prog 32 #[.string s] wx fun e w' => e = .returned (.int .i64 k) ∧ K3 w w' ∧ Below wx.heap.size wx w' :=
  (numberf_any s wx hs).mono fun _ _ ⟨he, hb⟩ => ⟨by rw [he, hr], K.next hb, hb⟩

def exToks : List (Int × List UInt8) := [(1, [123]), (2, [97]), (1, [40]), (2, [98]), (1, [58]), (3, [45, 49]), (1, [41]), (1, [125])]
theorem ex_one : readS [123, 97, 40, 98, 58, 45, 49, 41, 125] = (exToks, 0) := by decide +kernel
theorem ex_two : readS [48, 49] = ([], 2) := by decide +kernel
theorem ex_three : kindL [49, 46, 48] = 4 := by decide +kernel

end Go.Proofs.YtcdcfhplkimecaaGreatDoor
