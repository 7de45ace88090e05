/- What the laws of block need of the landed package, as a structure of contracts; the law's own examples; a world that keeps both. The invariant I is what the package's own variables need (True, if it has none). -/
import Derived.Test.YtecigjpolekpdaaRBlock
import Derived.Test.YtecigjpolekpdaaBLaws
import Derived.Test.YtecigjpolekpdaaTexts
namespace Go.Proofs.Ytecigjpolekpdaa
open Go.RowKit

structure BlockOf (I : World → Prop) : Prop where
  keep : ∀ {w w' : World}, I w → Below w.heap.size w w' → I w'
  lines : ∀ (s : ByteArray) (w : World), s.size ≤ 9000 → I w → Calls Try.prog 9 #[.string s] w fun e w' => ∃ A cap, e = .returned (.slice A (linesB s.data.toList).length cap) ∧ StrsAt w' w'.heap.size A (linesB s.data.toList).length (linesB s.data.toList) ∧ Below w.heap.size w w'
  indent : ∀ (A : Option Addr) (n c : Nat) (xs : List ByteArray) (w : World), n ≤ 9001 → StrsAt w w.heap.size A n xs → (∀ x ∈ xs, x.size ≤ 9000) → I w → Calls Try.prog 12 #[.slice A n c] w fun e w' => e = .returned (.int .i64 (indentL (bytesL xs))) ∧ Below w.heap.size w w'
  value : ∀ (s : ByteArray) (w : World), s.size ≤ 13000 → I w → Calls Try.prog 14 #[.string s] w fun e w' => e = .returned (.string ⟨(valueL s.data.toList).toArray⟩) ∧ Below w.heap.size w w'

/-- The invariant stands, and below the law's own start all is as it was. -/
def KeptI (I : World → Prop) (w wx : World) : Prop := I wx ∧ Below w.heap.size w wx
theorem KeptI.start {I : World → Prop} {w : World} (h : I w) : KeptI I w w := ⟨h, Below.refl _ _⟩
theorem KeptI.next {I : World → Prop} (B : BlockOf I) {w wx wy : World} (h : KeptI I w wx) (hb : Below wx.heap.size wx wy) : KeptI I w wy := ⟨B.keep h.1 hb, h.2.trans (hb.mono h.2.size)⟩
theorem KeptI.alloc {I : World → Prop} (B : BlockOf I) {w wx : World} (h : KeptI I w wx) (o : Obj) : KeptI I w (wx.alloc o) := h.next B ((Below.refl _ _).alloc (Nat.le_refl _) o)

theorem value_ex : (⟨(valueL [10, 32, 32, 97, 10, 32, 32, 32, 32, 98, 10]).toArray⟩ : ByteArray) = ⟨#[97, 10, 32, 32, 98]⟩ := by decide +kernel
theorem indent_ex : indentL (bytesL [⟨#[120]⟩, ⟨#[32, 32, 121]⟩]) = 2 := by decide +kernel
theorem lines_ex : (linesB [97, 13, 10, 98]).length = 2 := by decide +kernel
theorem two_strs (w : World) (x y : ByteArray) : StrsAt (w.alloc (.cells #[.string x, .string y] 9)) (w.heap.size + 1) (some ⟨w.heap.size, 0, none⟩) 2 [x, y] :=
  ⟨rfl, fun j z hz => by
    match j, hz with
    | 0, hz => cases hz; exact ⟨_, _, rfl, by omega, by rw [World.cell?_alloc_at _ _ _ _ rfl]; rfl⟩
    | 1, hz => cases hz; exact ⟨_, _, rfl, by omega, by rw [World.cell?_alloc_at _ _ _ _ rfl]; rfl⟩
    | j + 2, hz => simp at hz⟩

set_option maxRecDepth 100000 in
theorem awake_b {I : World → Prop} (B : BlockOf I) {w0 w : World} (K : KeptI I w0 w) : Calls Try.prog 8 #[] w fun e w' => e = .returned (.bool true) ∧ KeptI I w0 w' := by
  go_enter Try.func8, Try.ntmps8
  go_wp2_with fail
  refine (B.value _ w (by decide) K.1).mono ?_
  rintro e w1 ⟨rfl, hb⟩
  rw [show (⟨(valueL (⟨#[10, 32, 32, 97, 10, 32, 32, 32, 32, 98, 10]⟩ : ByteArray).data.toList).toArray⟩ : ByteArray) = ⟨#[97, 10, 32, 32, 98]⟩ from value_ex]
  have K1 := K.next B hb
  clear K hb
  have K2 := K1.alloc B (.cells #[.string ⟨#[120]⟩, .string ⟨#[32, 32, 121]⟩] 9)
  have HI := Lib.hid (B.indent (some ⟨w1.heap.size, 0, none⟩) 2 2 [⟨#[120]⟩, ⟨#[32, 32, 121]⟩] (w1.alloc (.cells #[.string ⟨#[120]⟩, .string ⟨#[32, 32, 121]⟩] 9)) (by omega) (by simpa using two_strs w1 ⟨#[120]⟩ ⟨#[32, 32, 121]⟩) (by decide) K2.1)
  have HK := Lib.hid K2
  clear K1 K2
  go_wp2_with fail
  refine HI.out.mono ?_
  rintro e w2 ⟨rfl, hb⟩
  rw [indent_ex]
  have K3 := HK.out.next B hb
  clear hb
  go_wp2_with fail
  refine (B.lines _ w2 (by decide) K3.1).mono ?_
  rintro e w3 ⟨A, cap, rfl, hS, hb⟩
  rw [show (linesB (⟨#[97, 13, 10, 98]⟩ : ByteArray).data.toList).length = 2 from lines_ex]
  have HK4 := Lib.hid (K3.next B hb)
  clear hb K3 hS
  go_wp2_with fail
  go_ret
  exact ⟨rfl, HK4.out⟩
theorem lines_k {I : World → Prop} (B : BlockOf I) {w wx : World} (K : KeptI I w wx) (s : ByteArray) (hs : s.size ≤ 9000) : Calls Try.prog 9 #[.string s] wx fun e w' => ∃ A cap, e = .returned (.slice A (linesB s.data.toList).length cap) ∧ StrsAt w' w'.heap.size A (linesB s.data.toList).length (linesB s.data.toList) ∧ KeptI I w w' ∧ Below wx.heap.size wx w' :=
  (B.lines s wx hs K.1).mono fun _ _ ⟨A, cap, he, hS, hb⟩ => ⟨A, cap, he, hS, K.next B hb, hb⟩
theorem indent_k {I : World → Prop} (B : BlockOf I) {w wx : World} (K : KeptI I w wx) (A : Option Addr) (n c : Nat) (xs : List ByteArray) (hn : n ≤ 9001) (hS : StrsAt wx wx.heap.size A n xs) (hx : ∀ x ∈ xs, x.size ≤ 9000) : Calls Try.prog 12 #[.slice A n c] wx fun e w' => e = .returned (.int .i64 (indentL (bytesL xs))) ∧ KeptI I w w' ∧ Below wx.heap.size wx w' :=
  (B.indent A n c xs wx hn hS hx K.1).mono fun _ _ ⟨he, hb⟩ => ⟨he, K.next B hb, hb⟩
theorem value_k {I : World → Prop} (B : BlockOf I) {w wx : World} (K : KeptI I w wx) (s : ByteArray) (hs : s.size ≤ 13000) : Calls Try.prog 14 #[.string s] wx fun e w' => e = .returned (.string ⟨(valueL s.data.toList).toArray⟩) ∧ KeptI I w w' ∧ Below wx.heap.size wx w' :=
  (B.value s wx hs K.1).mono fun _ _ ⟨he, hb⟩ => ⟨he, K.next B hb, hb⟩
end Go.Proofs.Ytecigjpolekpdaa
