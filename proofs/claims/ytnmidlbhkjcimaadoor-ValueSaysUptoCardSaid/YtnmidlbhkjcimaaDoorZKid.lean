/- The library's strconv.ParseInt and FormatInt at base 10, laid over this translation by hand; what the laws keep of the listed variables. -/
import Derived.Shelf.Strconv.ParseIntPublic10
import Derived.Shelf.Strconv.Itoa4
import Derived.Lib.LaidTab
import Derived.Lib.SmallJoins
import Derived.Lib.AtoiErrMem
import Derived.Test.YtnmidlbhkjcimaaDoorZLet
import Derived.Test.YtnmidlbhkjcimaaDoorZMath
import Derived.Test.YtnmidlbhkjcimaaDoorZVal
import Derived.Deep.LoopGhost
import Derived.Deep.RegionHeld3
import Derived.OwnWalk
namespace Go.Proofs.YtnmidlbhkjcimaaDoor
open Go.Shelf Go.RowKit Go.Sort
def pIntRen : Go.Shelf.Ren := ⟨fun | 129 => 75 | 171 => 94 | 174 => 72 | 205 => 93 | 243 => 95 | 245 => 82 | 246 => 54 | 247 => 81 | 279 => 86 | 280 => 87 | 281 => 88 | 282 => 89 | 283 => 61 | 284 => 62 | 285 => 63 | 286 => 64 | 287 => 85 | 316 => 92 | 317 => 74 | 318 => 76 | 319 => 77 | 320 => 78 | 321 => 90 | 322 => 91 | 337 => 83 | 338 => 84 | n => n, fun | 0 => 0 | 2 => 2 | 3 => 3 | 4 => 4 | 5 => 5 | 9 => 9 | 20 => 20 | 21 => 21 | 37 => 71 | 46 => 90 | 51 => 94 | 53 => 76 | 75 => 84 | 80 => 116 | 85 => 85 | 127 => 112 | 143 => 113 | 145 => 115 | 167 => 99 | 168 => 102 | 171 => 75 | 173 => 79 | 175 => 100 | 210 => 110 | 212 => 93 | 213 => 95 | 232 => 105 | 233 => 106 | n => n, fun | 15 => 4 | 16 => 5 | 17 => 1 | 18 => 2 | 19 => 3 | n => n⟩
theorem pIntLays0 : Go.Proofs.Lays.n174 Tryd.prog pIntRen := {
  mixed := by kernel_rfl
  f129 := Tryd.func75.trans (congrArg some (by kernel_rfl))
  f171 := Tryd.func94.trans (congrArg some (by kernel_rfl))
  f174 := Tryd.func72.trans (congrArg some (by kernel_rfl))
  f205 := Tryd.func93.trans (congrArg some (by kernel_rfl))
  f243 := Tryd.func95.trans (congrArg some (by kernel_rfl))
  f245 := Tryd.func82.trans (congrArg some (by kernel_rfl))
  f246 := Tryd.func54.trans (congrArg some (by kernel_rfl))
  f247 := Tryd.func81.trans (congrArg some (by kernel_rfl))
  f279 := Tryd.func86.trans (congrArg some (by kernel_rfl))
  f280 := Tryd.func87.trans (congrArg some (by kernel_rfl))
  f281 := Tryd.func88.trans (congrArg some (by kernel_rfl))
  f282 := Tryd.func89.trans (congrArg some (by kernel_rfl))
  f283 := Tryd.func61.trans (congrArg some (by kernel_rfl))
  f284 := Tryd.func62.trans (congrArg some (by kernel_rfl))
  f285 := Tryd.func63.trans (congrArg some (by kernel_rfl))
  f286 := Tryd.func64.trans (congrArg some (by kernel_rfl))
  f287 := Tryd.func85.trans (congrArg some (by kernel_rfl))
  f316 := Tryd.func92.trans (congrArg some (by kernel_rfl))
  f317 := Tryd.func74.trans (congrArg some (by kernel_rfl))
  f318 := Tryd.func76.trans (congrArg some (by kernel_rfl))
  f319 := Tryd.func77.trans (congrArg some (by kernel_rfl))
  f320 := Tryd.func78.trans (congrArg some (by kernel_rfl))
  f321 := Tryd.func90.trans (congrArg some (by kernel_rfl))
  f322 := Tryd.func91.trans (congrArg some (by kernel_rfl))
  f337 := Tryd.func83.trans (congrArg some (by kernel_rfl))
  f338 := Tryd.func84.trans (congrArg some (by kernel_rfl))
  t0 := Tryd.underlying0
  a0 := Tryd.isAgg0
  z0 := Tryd.sizeOf0
  v0 := Tryd.zeroValue0
  t2 := Tryd.underlying2
  a2 := Tryd.isAgg2
  z2 := Tryd.sizeOf2
  v2 := Tryd.zeroValue2
  t3 := Tryd.underlying3
  a3 := Tryd.isAgg3
  z3 := Tryd.sizeOf3
  v3 := Tryd.zeroValue3
  t4 := Tryd.underlying4
  a4 := Tryd.isAgg4
  z4 := Tryd.sizeOf4
  v4 := Tryd.zeroValue4
  t5 := Tryd.underlying5
  a5 := Tryd.isAgg5
  z5 := Tryd.sizeOf5
  v5 := Tryd.zeroValue5
  t9 := Tryd.underlying9
  a9 := Tryd.isAgg9
  z9 := Tryd.sizeOf9
  v9 := Tryd.zeroValue9
  t20 := Tryd.underlying20
  a20 := Tryd.isAgg20
  z20 := Tryd.sizeOf20
  v20 := Tryd.zeroValue20
  t21 := Tryd.underlying21
  a21 := Tryd.isAgg21
  z21 := Tryd.sizeOf21
  v21 := Tryd.zeroValue21
  t37 := Tryd.underlying71
  a37 := Tryd.isAgg71
  z37 := Tryd.sizeOf71
  v37 := Tryd.zeroValue71
  t46 := Tryd.underlying90
  a46 := Tryd.isAgg90
  z46 := Tryd.sizeOf90
  v46 := Tryd.zeroValue90
  t51 := Tryd.underlying94
  a51 := Tryd.isAgg94
  z51 := Tryd.sizeOf94
  v51 := Tryd.zeroValue94
  t53 := Tryd.underlying76
  a53 := Tryd.isAgg76
  z53 := Tryd.sizeOf76
  v53 := Tryd.zeroValue76
  t75 := Tryd.underlying84
  a75 := Tryd.isAgg84
  z75 := Tryd.sizeOf84
  v75 := Tryd.zeroValue84
  t85 := Tryd.underlying85
  a85 := Tryd.isAgg85
  z85 := Tryd.sizeOf85
  v85 := Tryd.zeroValue85
  t127 := Tryd.underlying112
  a127 := Tryd.isAgg112
  z127 := Tryd.sizeOf112
  v127 := Tryd.zeroValue112
  t143 := Tryd.underlying113
  a143 := Tryd.isAgg113
  z143 := Tryd.sizeOf113
  v143 := Tryd.zeroValue113
  t145 := Tryd.underlying115
  a145 := Tryd.isAgg115
  z145 := Tryd.sizeOf115
  v145 := Tryd.zeroValue115
  t167 := Tryd.underlying99
  a167 := Tryd.isAgg99
  z167 := Tryd.sizeOf99
  v167 := Tryd.zeroValue99
  t168 := Tryd.underlying102
  a168 := Tryd.isAgg102
  z168 := Tryd.sizeOf102
  v168 := Tryd.zeroValue102
  t171 := Tryd.underlying75
  a171 := Tryd.isAgg75
  z171 := Tryd.sizeOf75
  v171 := Tryd.zeroValue75
  t173 := Tryd.underlying79
  a173 := Tryd.isAgg79
  z173 := Tryd.sizeOf79
  v173 := Tryd.zeroValue79
  t175 := Tryd.underlying100
  a175 := Tryd.isAgg100
  z175 := Tryd.sizeOf100
  v175 := Tryd.zeroValue100
  t210 := Tryd.underlying110
  a210 := Tryd.isAgg110
  z210 := Tryd.sizeOf110
  v210 := Tryd.zeroValue110
  t212 := Tryd.underlying93
  a212 := Tryd.isAgg93
  z212 := Tryd.sizeOf93
  v212 := Tryd.zeroValue93
  t213 := Tryd.underlying95
  a213 := Tryd.isAgg95
  z213 := Tryd.sizeOf95
  t232 := Tryd.underlying105
  a232 := Tryd.isAgg105
  z232 := Tryd.sizeOf105
  v232 := Tryd.zeroValue105
  t233 := Tryd.underlying106
  a233 := Tryd.isAgg106
  z233 := Tryd.sizeOf106
  v233 := Tryd.zeroValue106
  g15 := by kernel_rfl
  g16 := by kernel_rfl
  g17 := by kernel_rfl
  g18 := by kernel_rfl
  g19 := by kernel_rfl }
theorem pIntLays1 : Go.Proofs.LaysM.n174 Tryd.prog pIntRen := { pIntLays0 with
  t80 := Tryd.underlying116
  a80 := Tryd.isAgg116
  z80 := Tryd.sizeOf116
  v80 := Tryd.zeroValue116
  i0 := by kernel_rfl
  i2 := by kernel_rfl
  i3 := by kernel_rfl
  i4 := by kernel_rfl
  i5 := by kernel_rfl
  i9 := by kernel_rfl
  i20 := by kernel_rfl
  i21 := by kernel_rfl
  i37 := by kernel_rfl
  i46 := by kernel_rfl
  i51 := by kernel_rfl
  i53 := by kernel_rfl
  i75 := by kernel_rfl
  i80 := by kernel_rfl
  i85 := by kernel_rfl
  i127 := by kernel_rfl
  i143 := by kernel_rfl
  i145 := by kernel_rfl
  i167 := by kernel_rfl
  i168 := by kernel_rfl
  i171 := by kernel_rfl
  i173 := by kernel_rfl
  i175 := by kernel_rfl
  i210 := by kernel_rfl
  i212 := by kernel_rfl
  i232 := by kernel_rfl
  i233 := by kernel_rfl
  m15 := by kernel_rfl
  m16 := by kernel_rfl
  m17 := by kernel_rfl
  m18 := by kernel_rfl
  m19 := by kernel_rfl }
theorem pIntLays : Go.Proofs.LaysC.n174 Tryd.prog pIntRen := { pIntLays1 with
  c0 := by kernel_rfl
  c2 := by kernel_rfl
  c3 := by kernel_rfl
  c4 := by kernel_rfl
  c5 := by kernel_rfl
  c9 := by kernel_rfl
  c20 := by kernel_rfl
  c21 := by kernel_rfl
  c37 := by kernel_rfl
  c46 := by kernel_rfl
  c51 := by kernel_rfl
  c53 := by kernel_rfl
  c75 := by kernel_rfl
  c80 := by kernel_rfl
  c85 := by kernel_rfl
  c127 := by kernel_rfl
  c143 := by kernel_rfl
  c145 := by kernel_rfl
  c167 := by kernel_rfl
  c168 := by kernel_rfl
  c171 := by kernel_rfl
  c173 := by kernel_rfl
  c175 := by kernel_rfl
  c210 := by kernel_rfl
  c212 := by kernel_rfl
  c213 := by kernel_rfl
  c232 := by kernel_rfl
  c233 := by kernel_rfl }
def fIntRen : Go.Shelf.Ren := ⟨fun | 129 => 75 | 173 => 37 | 246 => 54 | 283 => 61 | 284 => 62 | 285 => 63 | 286 => 64 | 317 => 74 | 318 => 76 | 319 => 77 | 320 => 78 | 337 => 83 | 338 => 84 | n => n, fun | 0 => 0 | 2 => 2 | 3 => 3 | 4 => 4 | 5 => 5 | 9 => 9 | 20 => 20 | 37 => 71 | 46 => 90 | 51 => 94 | 53 => 76 | 171 => 75 | 173 => 79 | 212 => 93 | 213 => 95 | 232 => 105 | 233 => 106 | n => n, fun | 17 => 1 | 18 => 2 | 19 => 3 | n => n⟩
theorem fIntLays0 : Go.Proofs.Lays.n173 Tryd.prog fIntRen := {
  mixed := by kernel_rfl
  f129 := Tryd.func75.trans (congrArg some (by kernel_rfl))
  f173 := Tryd.func37.trans (congrArg some (by kernel_rfl))
  f246 := Tryd.func54.trans (congrArg some (by kernel_rfl))
  f283 := Tryd.func61.trans (congrArg some (by kernel_rfl))
  f284 := Tryd.func62.trans (congrArg some (by kernel_rfl))
  f285 := Tryd.func63.trans (congrArg some (by kernel_rfl))
  f286 := Tryd.func64.trans (congrArg some (by kernel_rfl))
  f317 := Tryd.func74.trans (congrArg some (by kernel_rfl))
  f318 := Tryd.func76.trans (congrArg some (by kernel_rfl))
  f319 := Tryd.func77.trans (congrArg some (by kernel_rfl))
  f320 := Tryd.func78.trans (congrArg some (by kernel_rfl))
  f337 := Tryd.func83.trans (congrArg some (by kernel_rfl))
  f338 := Tryd.func84.trans (congrArg some (by kernel_rfl))
  t0 := Tryd.underlying0
  a0 := Tryd.isAgg0
  z0 := Tryd.sizeOf0
  v0 := Tryd.zeroValue0
  t2 := Tryd.underlying2
  a2 := Tryd.isAgg2
  z2 := Tryd.sizeOf2
  v2 := Tryd.zeroValue2
  t3 := Tryd.underlying3
  a3 := Tryd.isAgg3
  z3 := Tryd.sizeOf3
  v3 := Tryd.zeroValue3
  t4 := Tryd.underlying4
  a4 := Tryd.isAgg4
  z4 := Tryd.sizeOf4
  v4 := Tryd.zeroValue4
  t5 := Tryd.underlying5
  a5 := Tryd.isAgg5
  z5 := Tryd.sizeOf5
  v5 := Tryd.zeroValue5
  t9 := Tryd.underlying9
  a9 := Tryd.isAgg9
  z9 := Tryd.sizeOf9
  v9 := Tryd.zeroValue9
  t20 := Tryd.underlying20
  a20 := Tryd.isAgg20
  z20 := Tryd.sizeOf20
  v20 := Tryd.zeroValue20
  t37 := Tryd.underlying71
  a37 := Tryd.isAgg71
  z37 := Tryd.sizeOf71
  v37 := Tryd.zeroValue71
  t46 := Tryd.underlying90
  a46 := Tryd.isAgg90
  z46 := Tryd.sizeOf90
  v46 := Tryd.zeroValue90
  t51 := Tryd.underlying94
  a51 := Tryd.isAgg94
  z51 := Tryd.sizeOf94
  v51 := Tryd.zeroValue94
  t53 := Tryd.underlying76
  a53 := Tryd.isAgg76
  z53 := Tryd.sizeOf76
  v53 := Tryd.zeroValue76
  t171 := Tryd.underlying75
  a171 := Tryd.isAgg75
  z171 := Tryd.sizeOf75
  v171 := Tryd.zeroValue75
  t173 := Tryd.underlying79
  a173 := Tryd.isAgg79
  z173 := Tryd.sizeOf79
  v173 := Tryd.zeroValue79
  t212 := Tryd.underlying93
  a212 := Tryd.isAgg93
  z212 := Tryd.sizeOf93
  v212 := Tryd.zeroValue93
  t213 := Tryd.underlying95
  a213 := Tryd.isAgg95
  z213 := Tryd.sizeOf95
  t232 := Tryd.underlying105
  a232 := Tryd.isAgg105
  z232 := Tryd.sizeOf105
  v232 := Tryd.zeroValue105
  t233 := Tryd.underlying106
  a233 := Tryd.isAgg106
  z233 := Tryd.sizeOf106
  v233 := Tryd.zeroValue106
  g17 := by kernel_rfl
  g18 := by kernel_rfl
  g19 := by kernel_rfl }
theorem fIntLays1 : Go.Proofs.LaysM.n173 Tryd.prog fIntRen := { fIntLays0 with
  i0 := by kernel_rfl
  i2 := by kernel_rfl
  i3 := by kernel_rfl
  i4 := by kernel_rfl
  i5 := by kernel_rfl
  i9 := by kernel_rfl
  i20 := by kernel_rfl
  i37 := by kernel_rfl
  i46 := by kernel_rfl
  i51 := by kernel_rfl
  i53 := by kernel_rfl
  i171 := by kernel_rfl
  i173 := by kernel_rfl
  i212 := by kernel_rfl
  i232 := by kernel_rfl
  i233 := by kernel_rfl
  m17 := by kernel_rfl
  m18 := by kernel_rfl
  m19 := by kernel_rfl }
theorem fIntLays : Go.Proofs.LaysC.n173 Tryd.prog fIntRen := { fIntLays1 with
  c0 := by kernel_rfl
  c2 := by kernel_rfl
  c3 := by kernel_rfl
  c4 := by kernel_rfl
  c5 := by kernel_rfl
  c9 := by kernel_rfl
  c20 := by kernel_rfl
  c37 := by kernel_rfl
  c46 := by kernel_rfl
  c51 := by kernel_rfl
  c53 := by kernel_rfl
  c171 := by kernel_rfl
  c173 := by kernel_rfl
  c212 := by kernel_rfl
  c213 := by kernel_rfl
  c232 := by kernel_rfl
  c233 := by kernel_rfl }
/-- The listed variables that values lean on: the shapes of code points, the library's ErrRange, its table of powers. -/
def Laid5 (w : World) : Prop := TabAt w ∧ (∃ te pe, w.cell? ⟨5, 0, none⟩ = some (.iface te pe)) ∧ Lib.TabIs Tryd.prog w "internal/strconv.uint64pow10" .u64 Lib.pow10Tab
theorem gPow : Tryd.prog.globalNamed "internal/strconv.uint64pow10" = some 1 := by kernel_rfl
theorem lt_cell {w : World} {b o : Nat} {v : Value} (h : w.cell? ⟨b, o, none⟩ = some v) : b < w.heap.size := World.block_lt_of_cell? w _ h
theorem Laid5.below {w w' : World} (h : Laid5 w) (hb : Below w.heap.size w w') : Laid5 w' := by
  obtain ⟨ht, ⟨te, pe, hc⟩, hp⟩ := h
  exact ⟨ht.below hb ht.lt, ⟨te, pe, (hb.cell (p := ⟨5, 0, none⟩) (lt_cell hc)).trans hc⟩, Go.Joins.var_stays gPow hp hb (Nat.le_refl _)⟩
/-- What the walks keep of the world w at which they began. -/
def K5 (w wx : World) : Prop := Laid5 wx ∧ Below w.heap.size w wx
theorem K5.start {w : World} (h : Laid5 w) : K5 w w := ⟨h, Below.refl _ _⟩
theorem K5.next {w wx wy : World} (h : K5 w wx) (hb : Below wx.heap.size wx wy) : K5 w wy := ⟨h.1.below hb, h.2.trans (hb.mono h.2.size)⟩
theorem K5.alloc {w wx : World} (h : K5 w wx) (o : Obj) : K5 w (wx.alloc o) := h.next ((Below.refl _ _).alloc (Nat.le_refl _) o)
/-- ParseInt at base 10 of digits that fit, and of digits that do not. -/
theorem parseInt_yes (s : ByteArray) (hs : s.size ≤ 9000) (hk : kindL s.data.toList = 3) (hf : fits64 (intN s.data.toList) = true) (w : World) :
    Calls Tryd.prog 72 #[.string s, .int .i64 10, .int .i64 64] w fun e w' => e = .returned (.tuple #[.int .i64 (intN s.data.toList), .nilIface]) ∧ Below w.heap.size w w' := by
  have hp := parse_int hk
  rw [if_pos hf] at hp
  refine (Any.strconv_ParseInt_10_at64_ok pIntLays s (by omega) _ hp w).mono ?_
  rintro e w' ⟨he, h | ⟨t, h⟩⟩
  · subst h; exact ⟨he, Below.refl _ _⟩
  · subst h; exact ⟨he, Lib.bytesWorld_below _ _ _⟩
theorem parseInt_no (s : ByteArray) (hs : s.size ≤ 9000) (hk : kindL s.data.toList = 3) (hf : fits64 (intN s.data.toList) = false) (w : World) (hw : Laid5 w) :
    Calls Tryd.prog 72 #[.string s, .int .i64 10, .int .i64 64] w fun e w' => (∃ z N, e = .returned (.tuple #[.int .i64 z, .iface 102 (.pointer (some ⟨N, 0, none⟩))])) ∧ Below w.heap.size w w' := by
  have hp := parse_int hk
  rw [if_neg (by rw [hf]; simp)] at hp
  obtain ⟨_, ⟨te, pe, hc⟩, _⟩ := hw
  refine (Any.strconv_ParseInt_10_at64_range pIntLays s (by omega) hp (.iface te pe) w hc (Or.inr ⟨te, pe, rfl⟩)).mono ?_
  rintro e w' ⟨N, he, _, _, hb⟩
  exact ⟨⟨_, N, he⟩, hb⟩
theorem below_grow (w : World) (n : Nat) (os : Array Obj) : Below w.heap.size w (grow (w.drewN n) os) := by
  refine ⟨rfl, rfl, rfl, ?_, ?_⟩
  · show w.heap.size ≤ (w.heap ++ os).size
    simp
  · intro b hb
    show (w.heap ++ os)[b]? = w.heap[b]?
    rw [Array.getElem?_append_left hb]
/-- FormatInt at base 10. -/
theorem formatInt (n : Int) (h : -9223372036854775808 ≤ n ∧ n ≤ 9223372036854775807) (w : World) (hw : Laid5 w) :
    Calls Tryd.prog 37 #[.int .i64 n, .int .i64 10] w fun e w' => e = .returned (.string ⟨(Lib.itoa n).toArray⟩) ∧ Below w.heap.size w w' := by
  refine (Any.strconv_FormatInt_10 fIntLays.toM n h.1 h.2 w hw.2.2).mono ?_
  rintro e w' ⟨he, k, os, rfl⟩
  exact ⟨he, below_grow _ _ _⟩
end Go.Proofs.YtnmidlbhkjcimaaDoor
/- Rows of values: the cells of a level, of what stands within a value; the names of members, one after the other. -/
namespace Go.Proofs.YtnmidlbhkjcimaaDoor
open Go.RowKit

/-- A row of values somewhere in memory; what each reaches lies below block B. -/
def RowV (w : World) (B : Nat) (l : VL) (A : Option Addr) : Prop := ∀ (j : Nat) v, l.get j = some v → ∃ b o c0 c1 c2 c3 c4, A = some ⟨b, o, none⟩ ∧ b < w.heap.size ∧ Five w b (o + j * 5) c0 c1 c2 c3 c4 ∧ VAt w B v c0 c1 c2 c3 c4
theorem RowV.of_list {w : World} {B : Nat} {l : VL} {A : Option Addr} (hB : B ≤ w.heap.size) (h : LAt w B l A 0) : RowV w B l A := fun j v hv => by
  obtain ⟨b, o, c0, c1, c2, c3, c4, hA, hlt, hf, hV⟩ := LAt.at h hv
  rw [Nat.zero_add] at hf
  exact ⟨b, o, c0, c1, c2, c3, c4, hA, Nat.lt_of_lt_of_le hlt hB, hf, hV⟩
theorem RowV.below {w w' : World} {B : Nat} {l : VL} {A : Option Addr} (h : RowV w B l A) (hB : B ≤ w.heap.size) (hb : Below w.heap.size w w') : RowV w' B l A := fun j v hv => by
  obtain ⟨b, o, c0, c1, c2, c3, c4, hA, hlt, hf, hV⟩ := h j v hv
  exact ⟨b, o, c0, c1, c2, c3, c4, hA, Nat.lt_of_lt_of_le hlt hb.size, hf.below hb hlt, VAt.below (hb.mono hB) _ _ _ _ _ _ hV⟩
/-- These cells in a row are the list's values. -/
def ValsA (w : World) (B : Nat) : VL → List Value → Prop
  | .nil, xs => xs = []
  | .cons v t, xs => ∃ c0 c1 c2 c3 c4 ys, xs = c0 :: c1 :: c2 :: c3 :: c4 :: ys ∧ VAt w B v c0 c1 c2 c3 c4 ∧ ValsA w B t ys
theorem ValsA.below {w w' : World} {B : Nat} (hb : Below B w w') : ∀ {l : VL} {xs : List Value}, ValsA w B l xs → ValsA w' B l xs
  | .nil, _, h => h
  | .cons v t, xs, h => by
    obtain ⟨c0, c1, c2, c3, c4, ys, e, hv, ht⟩ := h
    exact ⟨c0, c1, c2, c3, c4, ys, e, VAt.below hb _ _ _ _ _ _ hv, ValsA.below hb ht⟩
theorem ValsA.len {w : World} {B : Nat} : ∀ {l : VL} {xs : List Value}, ValsA w B l xs → xs.length = l.len * 5
  | .nil, xs, h => by
    have : xs = [] := h
    rw [this]; rfl
  | .cons v t, xs, h => by
    obtain ⟨c0, c1, c2, c3, c4, ys, rfl, hv, ht⟩ := h
    have := ValsA.len ht
    simp only [List.length_cons, VL.len]; omega
theorem ValsA.app {w : World} {B : Nat} : ∀ {l r : VL} {xs ys : List Value}, ValsA w B l xs → ValsA w B r ys → ValsA w B (l.app r) (xs ++ ys)
  | .nil, r, xs, ys, h, h' => by
    have : xs = [] := h
    rw [this]; exact h'
  | .cons v t, r, xs, ys, h, h' => by
    obtain ⟨c0, c1, c2, c3, c4, zs, rfl, hv, ht⟩ := h
    exact ⟨c0, c1, c2, c3, c4, zs ++ ys, by simp, hv, ValsA.app ht h'⟩
theorem VAt.one {w : World} {B : Nat} {v : VT} {c0 c1 c2 c3 c4 : Value} (h : VAt w B v c0 c1 c2 c3 c4) : c0.oneCell' = true ∧ c1.oneCell' = true ∧ c2.oneCell' = true ∧ c3.oneCell' = true ∧ c4.oneCell' = true := by
  obtain ⟨k, n, s, l, m⟩ := v
  unfold VAt at h
  obtain ⟨rfl, rfl, rfl, _, ⟨A, c, rfl, _, _⟩, A', c', rfl, _, _⟩ := h
  exact ⟨rfl, rfl, rfl, rfl, rfl⟩
theorem ValsA.one {w : World} {B : Nat} : ∀ {l : VL} {xs : List Value}, ValsA w B l xs → ∀ u ∈ xs, u.oneCell' = true
  | .nil, xs, h, u, hu => by
    have : xs = [] := h
    rw [this] at hu; simp at hu
  | .cons v t, xs, h, u, hu => by
    obtain ⟨c0, c1, c2, c3, c4, ys, rfl, hv, ht⟩ := h
    obtain ⟨h0, h1, h2, h3, h4⟩ := hv.one
    simp only [List.mem_cons] at hu
    rcases hu with rfl | rfl | rfl | rfl | rfl | hu
    · exact h0
    · exact h1
    · exact h2
    · exact h3
    · exact h4
    · exact ValsA.one ht u hu
theorem ValsA.get {w : World} {B : Nat} : ∀ {l : VL} {xs : List Value} {j : Nat} {v : VT}, ValsA w B l xs → l.get j = some v → ∃ c0 c1 c2 c3 c4, VAt w B v c0 c1 c2 c3 c4 ∧ xs[j * 5]? = some c0 ∧ xs[j * 5 + 1]? = some c1 ∧ xs[j * 5 + 2]? = some c2 ∧ xs[j * 5 + 3]? = some c3 ∧ xs[j * 5 + 4]? = some c4
  | .nil, _, _, _, _, h => by simp [VL.get] at h
  | .cons u t, xs, 0, v, h, hg => by
    have : u = v := by simpa [VL.get] using hg
    subst this
    obtain ⟨c0, c1, c2, c3, c4, ys, rfl, hv, ht⟩ := h
    exact ⟨c0, c1, c2, c3, c4, hv, rfl, rfl, rfl, rfl, rfl⟩
  | .cons u t, xs, j + 1, v, h, hg => by
    obtain ⟨c0, c1, c2, c3, c4, ys, rfl, hv, ht⟩ := h
    obtain ⟨d0, d1, d2, d3, d4, hv', h0, h1, h2, h3, h4⟩ := ValsA.get (l := t) (j := j) (v := v) ht hg
    refine ⟨d0, d1, d2, d3, d4, hv', ?_, ?_, ?_, ?_, ?_⟩
    · rw [show (j + 1) * 5 = j * 5 + 5 by omega]; simpa using h0
    · rw [show (j + 1) * 5 + 1 = (j * 5 + 1) + 5 by omega]; simpa using h1
    · rw [show (j + 1) * 5 + 2 = (j * 5 + 2) + 5 by omega]; simpa using h2
    · rw [show (j + 1) * 5 + 3 = (j * 5 + 3) + 5 by omega]; simpa using h3
    · rw [show (j + 1) * 5 + 4 = (j * 5 + 4) + 5 by omega]; simpa using h4
/-- The cells of a row, as a list. -/
theorem row_vals {w : World} {B b o : Nat} : ∀ (l : VL) (i : Nat), (∀ (j : Nat) v, l.get j = some v → ∃ c0 c1 c2 c3 c4, Five w b (o + (i + j) * 5) c0 c1 c2 c3 c4 ∧ VAt w B v c0 c1 c2 c3 c4) → ∃ xs, ValsA w B l xs ∧ ∀ j u, xs[j]? = some u → w.cell? ⟨b, o + i * 5 + j, none⟩ = some u
  | .nil, _, _ => ⟨[], rfl, fun j u h => by simp at h⟩
  | .cons v t, i, h => by
    obtain ⟨c0, c1, c2, c3, c4, hf, hv⟩ := h 0 v rfl
    obtain ⟨xs, hx, hc⟩ := row_vals t (i + 1) (fun j v hj => by
      have := h (j + 1) v hj
      rwa [show i + (j + 1) = i + 1 + j by omega] at this)
    refine ⟨c0 :: c1 :: c2 :: c3 :: c4 :: xs, ⟨c0, c1, c2, c3, c4, xs, rfl, hv, hx⟩, fun j u hj => ?_⟩
    obtain ⟨f0, f1, f2, f3, f4⟩ := hf
    rw [Nat.add_zero] at f0 f1 f2 f3 f4
    match j, hj with
    | 0, hj => cases hj; exact f0
    | 1, hj => cases hj; exact f1
    | 2, hj => cases hj; exact f2
    | 3, hj => cases hj; exact f3
    | 4, hj => cases hj; exact f4
    | j + 5, hj =>
      have := hc j u (by simpa using hj)
      rwa [show o + (i + 1) * 5 + j = o + i * 5 + (j + 5) by omega] at this
theorem RowV.vals {w : World} {B : Nat} {l : VL} {a : Addr} (h : RowV w B l (some a)) : ∃ xs, ValsA w B l xs ∧ ∀ j u, xs[j]? = some u → w.cell? (a.add j) = some u := by
  cases hl : l with
  | nil => exact ⟨[], rfl, fun j u h => by simp at h⟩
  | cons v t =>
    rw [hl] at h
    obtain ⟨b, o, _, _, _, _, _, hA, _, _, _⟩ := h 0 v rfl
    have ha : a = ⟨b, o, none⟩ := by injection hA
    subst ha
    obtain ⟨xs, hx, hc⟩ := row_vals (w := w) (B := B) (b := b) (o := o) (.cons v t) 0 (fun j v hv => by
      obtain ⟨b', o', c0, c1, c2, c3, c4, hA', _, hf, hV⟩ := h j v hv
      injection hA' with e
      injection e with e1 e2
      subst e1 e2
      rw [Nat.zero_add]
      exact ⟨c0, c1, c2, c3, c4, hf, hV⟩)
    refine ⟨xs, hx, fun j u hj => ?_⟩
    rw [add_at]
    have := hc j u hj
    rwa [Nat.zero_mul, Nat.add_zero] at this
/-- A row that is owned. -/
theorem row_owned {w : World} {base B : Nat} {V : Value} {l : VL} {xs : List Value} (h : w.ownsRow base 25 5 V l.len xs) (hv : ValsA w B l xs) : ∃ A c, V = .slice A l.len c ∧ RowV w B l A := by
  obtain ⟨A, c, rfl⟩ := shape_own h
  refine ⟨A, c, rfl, fun j v hj => ?_⟩
  rcases h.2 with ⟨hV, hn⟩ | ⟨g, cap, cur, hV, _, hg, _, _, _, _⟩
  · have := VL.nil_of_len hn
    subst this
    simp [VL.get] at hj
  · injection hV with e1 e2 e3
    subst e1
    obtain ⟨c0, c1, c2, c3, c4, hvj, h0, h1, h2, h3, h4⟩ := hv.get hj
    have hlt : ∀ i u, xs[i]? = some u → w.cell? ⟨g, i, none⟩ = some u := fun i u hu => by
      have hil := (List.getElem?_eq_some_iff.1 hu).1
      rw [h.1] at hil
      rw [World.ownsRow.cellAt h i hil, hu]
    have hgs : g < w.heap.size := (h.lt g rfl).2
    exact ⟨g, 0, c0, c1, c2, c3, c4, rfl, hgs, ⟨by rw [Nat.zero_add]; exact hlt _ _ h0, by rw [Nat.zero_add]; exact hlt _ _ h1, by rw [Nat.zero_add]; exact hlt _ _ h2, by rw [Nat.zero_add]; exact hlt _ _ h3, by rw [Nat.zero_add]; exact hlt _ _ h4⟩, hvj⟩
/- The names, one after the other. -/
def namesTo (p : List UInt8 → Bool) : VM → Nat → Bool
  | _, 0 => true
  | .nil, _ + 1 => true
  | .cons nm _ t, j + 1 => p nm.data.toList && namesTo p t j
theorem namesTo_zero (p : List UInt8 → Bool) (m : VM) : namesTo p m 0 = true := by cases m <;> rfl
theorem namesTo_next (p : List UInt8 → Bool) : ∀ {m : VM} {j : Nat} {nm : ByteArray} {v : VT}, m.get j = some (nm, v) → namesTo p m (j + 1) = (namesTo p m j && p nm.data.toList)
  | .nil, _, _, _, h => by simp [VM.get] at h
  | .cons x u t, 0, nm, v, h => by
    have : x = nm ∧ u = v := by simpa [VM.get] using h
    obtain ⟨rfl, rfl⟩ := this
    show (p x.data.toList && namesTo p t 0) = (true && p x.data.toList)
    rw [namesTo_zero]; simp
  | .cons x u t, j + 1, nm, v, h => by
    rw [namesTo, namesTo_next p (m := t) (j := j) (v := v) h, namesTo, Bool.and_assoc]
theorem namesTo_all (p : List UInt8 → Bool) : ∀ m : VM, namesTo p m m.len = namesB p m
  | .nil => rfl
  | .cons nm v t => by rw [VM.len, namesTo, namesTo_all p t, namesB]
theorem names_no (p : List UInt8 → Bool) : ∀ {m : VM} {j : Nat} {nm : ByteArray} {v : VT}, m.get j = some (nm, v) → p nm.data.toList = false → namesB p m = false
  | .nil, _, _, _, h, _ => by simp [VM.get] at h
  | .cons x u t, 0, nm, v, h, hp => by
    have : x = nm ∧ u = v := by simpa [VM.get] using h
    obtain ⟨rfl, rfl⟩ := this
    rw [namesB, hp]; rfl
  | .cons x u t, j + 1, nm, v, h, hp => by
    rw [namesB, names_no p (m := t) (j := j) h hp]; simp
theorem name_size : ∀ {m : VM} {j : Nat} {nm : ByteArray} {v : VT}, m.get j = some (nm, v) → nm.size ≤ sizeM m ∧ sizeV v ≤ sizeM m := fun h => by
  have := sizeM_get h
  omega
/-- What a test of names is: a function that only reads its text. -/
def TestC (fn : Nat) (p : List UInt8 → Bool) : Prop := (∀ args w, (callFunc fn args).run Tryd.prog w = .ok (.enter fn args) w) ∧ ∀ (s : ByteArray) (w : World), s.size ≤ 9000 → Laid5 w → Calls Tryd.prog fn #[.string s] w fun e w' => e = .returned (.bool (p s.data.toList)) ∧ Below w.heap.size w w'
end Go.Proofs.YtnmidlbhkjcimaaDoor
/- The walks of value.named and value.within. -/
namespace Go.Proofs.YtnmidlbhkjcimaaDoor
open Go.RowKit

set_option maxRecDepth 100000 in
set_option maxHeartbeats 4000000 in
theorem named_any (fn : Nat) (p : List UInt8 → Bool) (hp : TestC fn p) (m : VM) (A : Option Addr) (c : Nat) (w : World) (B : Nat) (hB : B ≤ w.heap.size) (hm : m.len ≤ 9223372036854775807) (hM : MAt w B m A 0) (hz : sizeM m ≤ 9000) (hw : Laid5 w) :
    Calls Tryd.prog 44 #[.slice A m.len c, .func (.func fn) #[] #[]] w fun e w' => e = .returned (.bool (namesB p m)) ∧ Below w.heap.size w w' := by
  obtain ⟨he, hP⟩ := hp
  have HP := Lib.hid hP
  have HM := Lib.hid hM
  have HB0 := Lib.hid hB
  have HZ := Lib.hid hz
  have HW := Lib.hid hw
  clear hM hB hP hz hw
  go_enter Tryd.func44, Tryd.ntmps44
  go_wp2_with fail
  go_loopg [9] m.len (fun g i wx => ∃ q : Nat, q + g = m.len ∧ i = .int .i64 q ∧ Below w.heap.size w wx ∧ Aside (namesTo p m q = true))
  case atStart => exact ⟨0, by omega, rfl, Below.refl _ _, vaside (namesTo_zero _ _)⟩
  case round =>
    obtain ⟨q, hq, rfl, hb, HA⟩ := hrel
    have HBB := Lib.hid hb
    clear hb
    cases gk with
    | zero =>
      obtain rfl : q = m.len := by omega
      have hG : Hid (namesB p m = true) := Lib.hid (by rw [← namesTo_all]; exact HA)
      clear HA
      go_wp2_with fail
      go_ret
      exact ⟨ret_bool hG.out.symm, HBB.out⟩
    | succ g =>
      have hqn : q < m.len := by omega
      have hqn' : (q : Int) < (m.len : Int) := by omega
      obtain ⟨⟨nm, v⟩, hv⟩ := VM.get_lt hqn
      have hns := Nat.le_trans (name_size hv).1 HZ.out
      obtain ⟨b, o, d0, d1, d2, d3, d4, rfl, hblt, hnm, _, hF, hV⟩ := MAt.at (MAt.below (HBB.out.mono HB0.out) _ _ _ HM.out) hv
      rw [Nat.zero_add] at hF hnm
      have hnx := Lib.hid (namesTo_next p hv)
      have hno := Lib.hid (names_no p hv)
      have C := fun (wx : World) (hx : Below wr.heap.size wr wx) => Lib.hid (HP.out nm wx hns ((HW.out.below HBB.out).below hx))
      obtain ⟨vk, vn, vs, vl, vm⟩ := v
      unfold VAt at hV
      obtain ⟨rfl, rfl, rfl, _, ⟨A3, c3', rfl, _, _⟩, A4, c4', rfl, _, _⟩ := hV
      obtain ⟨f0, f1, f2, f3, f4⟩ := hF
      have hnew := fun o => (Below.refl wr.heap.size wr).alloc (Nat.le_refl _) o
      have HN := Lib.hid hnew
      clear hnew hv
      cases hpn : p nm.data.toList with
      | true =>
        rw [hpn] at C
        have hN : Hid (namesTo p m (q + 1) = true) := Lib.hid (by rw [hnx.out, HA, hpn]; rfl)
        clear HA hpn hno hnx
        go_wp2_with fail
        refine (C _ (HN.out _)).out.mono ?_
        rintro e w1 ⟨rfl, hb1⟩
        have HB1 := Lib.hid (HBB.out.trans (((HN.out _).trans (hb1.mono (by simp))).mono HBB.out.size))
        clear hb1 C f0 f1 f2 f3 f4 hnm
        go_wp2_with fail
        go_roundg g
        case measure => omega
        case rel => exact ⟨q + 1, by omega, by go_num, HB1.out, vaside hN.out⟩
      | false =>
        rw [hpn] at C
        have hN : Hid (namesB p m = false) := Lib.hid (hno.out hpn)
        clear HA hpn hno hnx
        go_wp2_with fail
        refine (C _ (HN.out _)).out.mono ?_
        rintro e w1 ⟨rfl, hb1⟩
        have HB1 := Lib.hid (HBB.out.trans (((HN.out _).trans (hb1.mono (by simp))).mono HBB.out.size))
        clear hb1 C f0 f1 f2 f3 f4 hnm
        go_wp2_with fail
        go_ret
        exact ⟨ret_bool hN.out.symm, HB1.out⟩
end Go.Proofs.YtnmidlbhkjcimaaDoor
/- The walk of value.within. -/
namespace Go.Proofs.YtnmidlbhkjcimaaDoor
open Go.RowKit

/-- The first q places of a row hold the first q values. -/
def Filled (w : World) (B : Nat) (l : VL) (q : Nat) (xs : List Value) : Prop := ∀ (j : Nat) v, j < q → l.get j = some v → ∃ c0 c1 c2 c3 c4, VAt w B v c0 c1 c2 c3 c4 ∧ xs[j * 5]? = some c0 ∧ xs[j * 5 + 1]? = some c1 ∧ xs[j * 5 + 2]? = some c2 ∧ xs[j * 5 + 3]? = some c3 ∧ xs[j * 5 + 4]? = some c4
def RB (base n G B : Nat) (l : VL) (w : World) (q : Nat) : Prop := ∃ xs, w.ownsRow base 25 5 (.slice (some ⟨G, 0, none⟩) n n) n xs ∧ Filled w B l q xs
theorem kids_list (n : Int) (s : ByteArray) (l : VL) (m : VM) : VT.kids (.mk 6 n s l m) = l := by rw [VT.kids, if_pos rfl]
theorem kids_map (n : Int) (s : ByteArray) (l : VL) (m : VM) : VT.kids (.mk 7 n s l m) = m.vals := by rw [VT.kids, if_neg (by omega), if_pos rfl]
theorem kids_none (k n : Int) (s : ByteArray) (l : VL) (m : VM) (h6 : ¬ k = 6) (h7 : ¬ k = 7) : VT.kids (.mk k n s l m) = .nil := by rw [VT.kids, if_neg h6, if_neg h7]
def WithinC (v : VT) : Prop := ∀ (c0 c1 c2 c3 c4 : Value) (w : World) (B : Nat), B ≤ w.heap.size → VAt w B v c0 c1 c2 c3 c4 →
  Calls Tryd.prog 31 #[.agg #[c0, c1, c2, c3, c4]] w fun e w' => ∃ A c, e = .returned (.slice A v.kids.len c) ∧ RowV w' B v.kids A ∧ Below w.heap.size w w'
theorem within_said {w' w : World} {B : Nat} {v : VT} {l : VL} {A : Option Addr} {c : Nat} (hk : v.kids = l) (hr : RowV w' B l A) (hb : Below w.heap.size w w') : ∃ A' c', Ending.returned (.slice A l.len c) = .returned (.slice A' v.kids.len c') ∧ RowV w' B v.kids A' ∧ Below w.heap.size w w' :=
  ⟨A, c, by rw [hk], by rw [hk]; exact hr, hb⟩

theorem not_frozen {w : World} {base : Nat} {e : TypeId} {sz n cap g : Nat} {xs : List Value} (h : w.ownsRow base e sz (.slice (some ⟨g, 0, none⟩) n cap) n xs) (i : Nat) : w.frozen? ⟨g, i, none⟩ = false := by
  rcases h.2 with ⟨h', _⟩ | ⟨g', cap', cur, h', _, hg, _⟩
  · simp at h'
  · injection h' with e1 e2 e3
    injection e1 with e1
    injection e1 with e1
    subst e1
    simp [World.frozen?, hg]
theorem VL.lt_get : ∀ {l : VL} {j : Nat} {v : VT}, l.get j = some v → j < l.len
  | .nil, _, _, h => by simp [VL.get] at h
  | .cons _ _, 0, _, _ => by simp [VL.len]
  | .cons _ t, j + 1, _, h => by have := VL.lt_get (l := t) h; simp [VL.len]; omega
theorem stored_below {w wr : World} {g i : Nat} {d0 d1 d2 d3 d4 : Value} {o : Obj} (h : Below w.heap.size w wr) (hg : w.heap.size ≤ g) :
    Below w.heap.size w ((((((wr.setCell ⟨g, i, none⟩ d0).setCell ⟨g, i + 1, none⟩ d1).setCell ⟨g, i + 2, none⟩ d2).setCell ⟨g, i + 3, none⟩ d3).setCell ⟨g, i + 4, none⟩ d4).alloc o) := by
  have h0 := ((((h.setCell (p := ⟨g, i, none⟩) hg d0).setCell (p := ⟨g, i + 1, none⟩) hg d1).setCell (p := ⟨g, i + 2, none⟩) hg d2).setCell (p := ⟨g, i + 3, none⟩) hg d3).setCell (p := ⟨g, i + 4, none⟩) hg d4
  exact h0.alloc h0.size o
theorem set_other {xs : List Value} {i j : Nat} {u z : Value} (h : i ≠ j) (hx : xs[j]? = some z) : (xs.set i u)[j]? = some z := by rw [List.getElem?_set_ne h]; exact hx
theorem set_here {xs : List Value} {i : Nat} {u : Value} (h : i < xs.length) : (xs.set i u)[i]? = some u := by rw [List.getElem?_set_self h]
theorem stored_filled {w wr : World} {base n g B q : Nat} {l : VL} {v : VT} {xs : List Value} {d0 d1 d2 d3 d4 : Value} {o : Obj} (hB : B ≤ w.heap.size) (hb : Below w.heap.size w wr) (hg : w.heap.size ≤ g) (hown : wr.ownsRow base 25 5 (.slice (some ⟨g, 0, none⟩) n n) n xs) (hf : Filled wr B l q xs) (hq : q < n) (hv : l.get q = some v) (hV : VAt wr B v d0 d1 d2 d3 d4) :
    RB base n g B l ((((((wr.setCell ⟨g, q * 5, none⟩ d0).setCell ⟨g, q * 5 + 1, none⟩ d1).setCell ⟨g, q * 5 + 2, none⟩ d2).setCell ⟨g, q * 5 + 3, none⟩ d3).setCell ⟨g, q * 5 + 4, none⟩ d4).alloc o) (q + 1) := by
  have s0 := (hown.stored (q * 5) d0).1
  have s1 := (s0.stored (q * 5 + 1) d1).1
  have s2 := (s1.stored (q * 5 + 2) d2).1
  have s3 := (s2.stored (q * 5 + 3) d3).1
  have s4 := (s3.stored (q * 5 + 4) d4).1
  have hbw : Below B wr ((((((wr.setCell ⟨g, q * 5, none⟩ d0).setCell ⟨g, q * 5 + 1, none⟩ d1).setCell ⟨g, q * 5 + 2, none⟩ d2).setCell ⟨g, q * 5 + 3, none⟩ d3).setCell ⟨g, q * 5 + 4, none⟩ d4).alloc o) := by
    have hgB : B ≤ g := Nat.le_trans hB hg
    have hBr : B ≤ wr.heap.size := Nat.le_trans hB hb.size
    have h0 := (((((Below.refl B wr).setCell (p := ⟨g, q * 5, none⟩) hgB d0).setCell (p := ⟨g, q * 5 + 1, none⟩) hgB d1).setCell (p := ⟨g, q * 5 + 2, none⟩) hgB d2).setCell (p := ⟨g, q * 5 + 3, none⟩) hgB d3).setCell (p := ⟨g, q * 5 + 4, none⟩) hgB d4
    exact h0.alloc (Nat.le_trans hBr h0.size) o
  have hl := hown.1
  refine ⟨_, own_low s4 ((Below.refl _ _).alloc (Nat.le_refl _) o), fun j u hj hu => ?_⟩
  rcases Nat.lt_or_ge j q with hjq | hjq
  · obtain ⟨c0, c1, c2, c3, c4, hc, g0, g1, g2, g3, g4⟩ := hf j u hjq hu
    refine ⟨c0, c1, c2, c3, c4, VAt.below hbw _ _ _ _ _ _ hc, ?_, ?_, ?_, ?_, ?_⟩
    all_goals
      refine set_other (by omega) (set_other (by omega) (set_other (by omega) (set_other (by omega) (set_other (by omega) ?_))))
      assumption
  · obtain rfl : j = q := by omega
    rw [hv] at hu
    cases hu
    refine ⟨d0, d1, d2, d3, d4, VAt.below hbw _ _ _ _ _ _ hV, ?_, ?_, ?_, ?_, ?_⟩
    · exact set_other (by omega) (set_other (by omega) (set_other (by omega) (set_other (by omega) (set_here (by omega)))))
    · exact set_other (by omega) (set_other (by omega) (set_other (by omega) (set_here (by simp; omega))))
    · exact set_other (by omega) (set_other (by omega) (set_here (by simp; omega)))
    · exact set_other (by omega) (set_here (by simp; omega))
    · exact set_here (by simp; omega)
theorem RB.row {base n G B : Nat} {l : VL} {w : World} (h : RB base n G B l w n) (hl : l.len = n) : RowV w B l (some ⟨G, 0, none⟩) := by
  obtain ⟨xs, hown, hf⟩ := h
  intro j v hj
  have hjn : j < n := by rw [← hl]; exact VL.lt_get hj
  obtain ⟨c0, c1, c2, c3, c4, hv, h0, h1, h2, h3, h4⟩ := hf j v hjn hj
  have hat : ∀ i u, xs[i]? = some u → w.cell? ⟨G, i, none⟩ = some u := fun i u hu => by
    have hil := (List.getElem?_eq_some_iff.1 hu).1
    rw [hown.1] at hil
    rw [World.ownsRow.cellAt hown i hil, hu]
  exact ⟨G, 0, c0, c1, c2, c3, c4, rfl, (hown.lt _ rfl).2, ⟨by rw [Nat.zero_add]; exact hat _ _ h0, by rw [Nat.zero_add]; exact hat _ _ h1, by rw [Nat.zero_add]; exact hat _ _ h2, by rw [Nat.zero_add]; exact hat _ _ h3, by rw [Nat.zero_add]; exact hat _ _ h4⟩, hv⟩
set_option maxRecDepth 100000 in
set_option maxHeartbeats 4000000 in
theorem within_any (v : VT) (hz : sizeV v ≤ 9000) : WithinC v := by
  intro c0 c1 c2 c3 c4 w B hB hv
  obtain ⟨k, n, s, l, m⟩ := v
  have hml : m.len ≤ 9000 := by rw [sizeV] at hz; have := lenM_le m; omega
  unfold VAt at hv
  obtain ⟨rfl, rfl, rfl, _, ⟨A, c, rfl, hl, hL⟩, A', c', rfl, hm, hM⟩ := hv
  have hb0 : Below w.heap.size w (w.alloc (.cells #[.int .i64 k, .int .i64 n, .string s, .slice A l.len c, .slice A' m.len c'] 25)) := (Below.refl _ _).alloc (Nat.le_refl _) _
  have HB := Lib.hid hb0
  have HB0 := Lib.hid hB
  have HL := Lib.hid hL
  have HM := Lib.hid hM
  clear hL hM hB hb0 hz
  by_cases k6 : k = 6
  · subst k6
    go_enter Tryd.func31, Tryd.ntmps31
    go_wp2_with fail
    go_ret
    exact within_said (kids_list _ _ _ _) (RowV.of_list (Nat.le_trans HB0.out HB.out.size) (LAt.below (HB.out.mono HB0.out) _ _ _ HL.out)) HB.out
  · by_cases k7 : k = 7
    · subst k7
      obtain ⟨i0, hi, hz0, hz1, hz2⟩ := info_parts info_val
      clear k6
      go_enter Tryd.func31, Tryd.ntmps31
      have hbox4 : Hid ((w.alloc (.cells #[.int .i64 7, .int .i64 n, .string s, .slice A l.len c, .slice A' m.len c'] 25)).cell? ⟨w.heap.size, 4, none⟩ = some (.slice A' m.len c')) := Lib.hid (by rw [World.cell?_alloc_at _ _ _ _ rfl]; rfl)
      go_wp2_with (at_make; refine wpList_make_full _ rfl _ _ 22 rfl w.heap.size 25 i0 _ 5 Tryd.underlying22 hi hz0 hz1 .i64 .i64 _ _ m.len rfl rfl (by first | rfl | omega) (by first | rfl | omega) (by rw [hz2]; omega) (by unfold maxLen; omega) (by simp) ?_; intro w2 hown hgr; have hb2 := (Below.refl _ _).grown hgr (Nat.le_refl _) (fun k h => by cases h); have hc4 : w2.cell? ⟨w.heap.size, 4, none⟩ = some (.slice A' m.len c') := (hb2.cell (p := ⟨w.heap.size, 4, none⟩) (by simp)).trans hbox4.out; have HB2 := Lib.hid (HB.out.trans (hb2.mono HB.out.size)); have HO := Lib.hid hown; clear hown hgr hb2)
      have hsz : (w.alloc (.cells #[.int .i64 7, .int .i64 n, .string s, .slice A l.len c, .slice A' m.len c'] 25)).heap.size = w.heap.size + 1 := by simp
      rw [hsz] at HO
      clear hsz hc4 hbox4 HB
      go_loopg [21] m.len (fun g i wx => ∃ q : Nat, q + g = m.len ∧ i = .int .i64 q ∧ Below w.heap.size w wx ∧ Aside (RB w.heap.size m.len (w.heap.size + 1) B m.vals wx q))
      case atStart => exact ⟨0, by omega, rfl, HB2.out, vaside ⟨_, HO.out, fun j v hj => absurd hj (Nat.not_lt_zero _)⟩⟩
      case round =>
        obtain ⟨q, hq, rfl, hb, HA⟩ := hrel
        have HBB := Lib.hid hb
        clear hb HO HB2
        cases gk with
        | zero =>
          obtain rfl : q = m.len := by omega
          go_wp2_with fail
          go_ret
          exact ⟨some ⟨w.heap.size + 1, 0, none⟩, m.len, by rw [kids_map, VM.len_vals]; rfl, by rw [kids_map]; exact RB.row HA (VM.len_vals m), HBB.out⟩
        | succ g =>
          have hqn : q < m.len := by omega
          have hqn' : (q : Int) < (m.len : Int) := by omega
          obtain ⟨⟨nm, v⟩, hv⟩ := VM.get_lt hqn
          obtain ⟨b, o, d0, d1, d2, d3, d4, rfl, hblt, hnm, _, hF, hV⟩ := MAt.at (MAt.below (HBB.out.mono HB0.out) _ _ _ HM.out) hv
          rw [Nat.zero_add] at hF hnm
          have hV0 := Lib.hid hV
          have HV := Lib.hid (VM.get_vals hv)
          obtain ⟨vk, vn, vs, vl, vm⟩ := v
          unfold VAt at hV
          obtain ⟨rfl, rfl, rfl, _, ⟨A3, c3', rfl, _, _⟩, A4, c4', rfl, _, _⟩ := hV
          obtain ⟨f0, f1, f2, f3, f4⟩ := hF
          obtain ⟨xs, hown, hfill⟩ := HA
          have hlen := hown.1
          obtain ⟨z0, hz0'⟩ : ∃ z, xs[q * 5]? = some z := ⟨_, List.getElem?_eq_getElem (by omega)⟩
          obtain ⟨z1, hz1'⟩ : ∃ z, xs[q * 5 + 1]? = some z := ⟨_, List.getElem?_eq_getElem (by omega)⟩
          obtain ⟨z2, hz2'⟩ : ∃ z, xs[q * 5 + 2]? = some z := ⟨_, List.getElem?_eq_getElem (by omega)⟩
          obtain ⟨z3, hz3'⟩ : ∃ z, xs[q * 5 + 3]? = some z := ⟨_, List.getElem?_eq_getElem (by omega)⟩
          obtain ⟨z4, hz4'⟩ : ∃ z, xs[q * 5 + 4]? = some z := ⟨_, List.getElem?_eq_getElem (by omega)⟩
          have hat := fun i u (hi : xs[i]? = some u) => (World.ownsRow.cellAt hown i (by rw [← hlen]; exact (List.getElem?_eq_some_iff.1 hi).1)).trans hi
          have y0 := hat _ _ hz0'
          have y1 := hat _ _ hz1'
          have y2 := hat _ _ hz2'
          have y3 := hat _ _ hz3'
          have y4 := hat _ _ hz4'
          have hGlt : w.heap.size + 1 < wr.heap.size := (hown.lt _ rfl).2
          have q0 := not_frozen hown (q * 5)
          have q1 := not_frozen hown (q * 5 + 1)
          have q2 := not_frozen hown (q * 5 + 2)
          have q3 := not_frozen hown (q * 5 + 3)
          have q4 := not_frozen hown (q * 5 + 4)
          have HO := Lib.hid hown
          have HFI := Lib.hid hfill
          have HZ := Lib.hid (And.intro hz0' (And.intro hz1' (And.intro hz2' (And.intro hz3' hz4'))))
          clear hat hz0' hz1' hz2' hz3' hz4' hown hfill hlen hv
          go_wp2_with fail
          go_roundg g
          case measure => omega
          case rel => exact ⟨q + 1, by omega, by go_num, stored_below HBB.out (Nat.le_succ _), vaside (stored_filled HB0.out HBB.out (Nat.le_succ _) HO.out HFI.out hqn HV.out hV0.out)⟩
    · have e6 : (k == 6) = false := by simpa using k6
      have e7 : (k == 7) = false := by simpa using k7
      have hk := Lib.hid (kids_none k n s l m k6 k7)
      clear k6 k7
      go_enter Tryd.func31, Tryd.ntmps31
      go_wp2_with fail
      go_ret
      exact within_said (c := 0) (A := none) hk.out (fun j v hj => by simp [VL.get] at hj) HB.out
end Go.Proofs.YtnmidlbhkjcimaaDoor
/- The walks of value.Depth and of the document's own. -/
namespace Go.Proofs.YtnmidlbhkjcimaaDoor
open Go.RowKit

theorem kids_get_size {v x : VT} {j : Nat} (h : v.kids.get j = some x) : sizeV x + 1 ≤ sizeV v := by
  have := size_kids v
  have := sizeL_get h
  omega
theorem RowV.alloc {w : World} {B : Nat} {l : VL} {A : Option Addr} (h : RowV w B l A) (hB : B ≤ w.heap.size) (o : Obj) : RowV (w.alloc o) B l A := h.below hB ((Below.refl _ _).alloc (Nat.le_refl _) o)
theorem ret_int {a b : Int} (h : a = b) : Ending.returned (.int .i64 a) = .returned (.int .i64 b) := by rw [h]
theorem max_nat (a b : Nat) : max (a : Int) (b : Int) = ((max a b : Nat) : Int) := by omega
def DepC (v : VT) : Prop := ∀ (c0 c1 c2 c3 c4 : Value) (w : World) (B : Nat), B ≤ w.heap.size → VAt w B v c0 c1 c2 c3 c4 →
  Calls Tryd.prog 14 #[.agg #[c0, c1, c2, c3, c4]] w fun e w' => e = .returned (.int .i64 (depV v)) ∧ Below w.heap.size w w'

set_option maxRecDepth 100000 in
set_option maxHeartbeats 4000000 in
theorem depth_step (N : Nat) (hN : N + 1 ≤ 9000) (H : ∀ u, sizeV u ≤ N → DepC u) : ∀ u, sizeV u ≤ N + 1 → DepC u := by
  intro u hu c0 c1 c2 c3 c4 w B hB hv
  have HS := Lib.hid H
  have hW := within_any u (by omega)
  have hv0 := Lib.hid hv
  have HB0 := Lib.hid hB
  have hkg := Lib.hid (fun (x : VT) (j : Nat) (h : u.kids.get j = some x) => kids_get_size h)
  have hks := Lib.hid (size_kids u)
  have hls := Lib.hid (len_size u.kids)
  obtain ⟨k, n, s, l, m⟩ := u
  have hdk := Lib.hid (dep_kids k n s l m)
  have hd0 : Hid (¬ k = 6 → ¬ k = 7 → depV (.mk k n s l m) = 0) := Lib.hid (fun h6 h7 => by rw [depV, if_neg h6, if_neg h7])
  generalize hU : VT.mk k n s l m = U at *
  have hv' := hv
  rw [← hU] at hv'
  unfold VAt at hv'
  obtain ⟨rfl, rfl, rfl, _, ⟨A, c, rfl, hl, hL⟩, A', c', rfl, hm, hM⟩ := hv'
  have HW := Lib.hid hW
  have HU := Lib.hid hu
  have hb0 : Below w.heap.size w (w.alloc (.cells #[.int .i64 k, .int .i64 n, .string s, .slice A l.len c, .slice A' m.len c'] 25)) := (Below.refl _ _).alloc (Nat.le_refl _) _
  have HB := Lib.hid hb0
  clear H hB hv hW hL hM hu hU hb0
  obtain ⟨n6, h6⟩ : ∃ b, (k != 6) = b := ⟨_, rfl⟩
  obtain ⟨n7, h7⟩ : ∃ b, (k != 7) = b := ⟨_, rfl⟩
  by_cases hk : k = 6 ∨ k = 7
  · have hD := Lib.hid (hdk.out hk)
    have hb : n6 = true → n7 = false := by
      intro e
      rw [e] at h6
      have : ¬ k = 6 := by simpa using h6
      have : k = 7 := by omega
      rw [← h7]; simp [this]
    have HK := Lib.hid hk
    clear hk hd0
    cases n6
    rotate_left
    obtain rfl := hb rfl
    all_goals
      clear hb
      go_enter Tryd.func14, Tryd.ntmps14
      go_wp2_with fail
      refine (HW.out _ _ _ _ _ _ B (Nat.le_trans HB0.out HB.out.size) (VAt.below (HB.out.mono HB0.out) _ _ _ _ _ _ hv0.out)).mono ?_
      rintro e w1 ⟨A1, c1', rfl, hrow, hb1⟩
      have HB1 := Lib.hid (HB.out.trans (hb1.mono HB.out.size))
      have HR := Lib.hid hrow
      clear hrow hb1
      go_wp2_with fail
      go_loopg [3, 17] U.kids.len (fun g mo i wx => ∃ q : Nat, q + g = U.kids.len ∧ i = .int .i64 q ∧ mo = .int .i64 (depTo U.kids q) ∧ Below w.heap.size w wx ∧ Aside (RowV wx B U.kids A1))
      case atStart => exact ⟨0, by omega, rfl, by rw [depTo_zero]; rfl, HB1.out, vaside HR.out⟩
      case round =>
        obtain ⟨q, hq, rfl, rfl, hb, HA⟩ := hrel
        have HBB := Lib.hid hb
        have HRR := Lib.hid HA.out
        have hwr := hb.size
        clear hb HA HR HB1
        cases gk with
        | zero =>
          obtain rfl : q = U.kids.len := by omega
          have hsm := Nat.le_trans (depL_size U.kids) (Nat.le_of_succ_le (Nat.le_trans hks.out HU.out))
          rw [depTo_all]
          have hadd : (1 : Int) + (depL U.kids : Int) = ((depL U.kids + 1 : Nat) : Int) := by omega
          go_wp2_with fail
          go_ret
          exact ⟨ret_int (by rw [hD.out]; omega), HBB.out⟩
        | succ g =>
          have hqn : q < U.kids.len := by omega
          have hq9 : q < 9000 := by have h1 := hks.out; have h2 := hls.out; have h3 := HU.out; omega
          have hqn' : (q : Int) < (U.kids.len : Int) := by omega
          obtain ⟨x, hx⟩ := VL.get_lt hqn
          have hxs := hkg.out x q hx
          have hnx := Lib.hid (depTo_next hx)
          obtain ⟨b, o, d0, d1, d2, d3, d4, rfl, hblt, hF, hV⟩ := HRR.out q x hx
          have hBr := Nat.le_trans HB0.out hwr
          have C := fun (wx : World) (hx : Below wr.heap.size wr wx) => Lib.hid (HS.out x (by have := HU.out; omega) d0 d1 d2 d3 d4 wx B (Nat.le_trans hBr hx.size) (VAt.below (hx.mono hBr) _ _ _ _ _ _ hV))
          obtain ⟨xk, xn, xs, xl, xm⟩ := x
          have hV' := hV
          unfold VAt at hV'
          obtain ⟨rfl, rfl, rfl, _, ⟨A3, c3', rfl, _, _⟩, A4, c4', rfl, _, _⟩ := hV'
          obtain ⟨f0, f1, f2, f3, f4⟩ := hF
          have hnew := Lib.hid (fun o => (Below.refl wr.heap.size wr).alloc (Nat.le_refl _) o)
          have hmx := max_nat (depTo U.kids q) (depV (.mk xk xn xs xl xm))
          clear hV hx hxs
          go_wp2_with fail
          refine (C _ (hnew.out _)).out.mono ?_
          rintro e w2 ⟨rfl, hb2⟩
          have hb3 := (hnew.out _).trans (hb2.mono (Nat.le_of_lt (by simp)))
          have HB3 := Lib.hid (HBB.out.trans (hb3.mono hwr))
          have HR3 := Lib.hid (HRR.out.below hBr hb3)
          clear hb2 hb3 C f0 f1 f2 f3 f4
          go_wp2_with fail
          go_roundg g
          case measure => omega
          case rel => exact ⟨q + 1, by omega, by go_num, by rw [hnx.out], HB3.out, vaside HR3.out⟩
  · have hD := Lib.hid (hd0.out (fun e => hk (Or.inl e)) (fun e => hk (Or.inr e)))
    have e6 : (k != 6) = true := by simp; omega
    have e7 : (k != 7) = true := by simp; omega
    clear hk hd0 h6 h7
    go_enter Tryd.func14, Tryd.ntmps14
    go_wp2_with fail
    go_ret
    exact ⟨ret_int (by rw [hD.out]; rfl), HB.out⟩
theorem depth_all : ∀ N, N ≤ 9000 → ∀ u, sizeV u ≤ N → DepC u
  | 0, _, u, h => by cases u; rw [sizeV] at h; omega
  | N + 1, hN, u, h => depth_step N hN (depth_all N (by omega)) u h
theorem depth_any (u : VT) (h : sizeV u ≤ 9000) : DepC u := depth_all 9000 (Nat.le_refl _) u h
end Go.Proofs.YtnmidlbhkjcimaaDoor
