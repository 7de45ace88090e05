/- The library's strconv.ParseInt and FormatInt at base 10, laid over this translation by hand; what the laws keep of the listed variables. -/
import Derived.Shelf.Strings.BuilderK
import Derived.Shelf.Strings.BuilderRune
import Derived.Test.YtcfdfgbobnocnaaGreatDoorProg
import Derived.Shelf.Strings.Prefix
import Derived.Shelf.Small.Wraps
import Derived.Shelf.Small.Strs
import Derived.Test.YtcfdfgbobnocnaaGreatDoorEach
import Derived.Test.YtcfdfgbobnocnaaGreatDoorBMath
import Derived.Below
import Derived.Lib.Hide
import Derived.Test.YtcfdfgbobnocnaaGreatDoorTFacts
import Derived.Laws.AppendOwn
import Derived.Laws.AppendOwnNone
import Derived.Deep.AppendLies
import Derived.Deep.QuietTactic
import Derived.BigQuiet
import Derived.Deep.Draws
import Derived.Shelf.Strconv.ParseIntPublic10
import Derived.Shelf.Strconv.Itoa4
import Derived.Lib.LaidTab
import Derived.Lib.SmallJoins
import Derived.Lib.AtoiErrMem
import Derived.Test.YtcfdfgbobnocnaaGreatDoorVTok
namespace Go.Proofs.YtcfdfgbobnocnaaGreatDoor
open Go.Shelf Go.RowKit
end Go.Proofs.YtcfdfgbobnocnaaGreatDoor
namespace Go.Proofs.YtcfdfgbobnocnaaGreatDoor
open Go.Shelf Go.RowKit
def hasPRen : Go.Shelf.Ren := ⟨fun | 99 => 105 | 206 => 114 | n => n, fun | 3 => 3 | 4 => 4 | 5 => 5 | 9 => 9 | n => n, fun  | n => n⟩
theorem hasPLays : Go.Proofs.Lays.n99 Tryz.prog hasPRen := {
  mixed := by kernel_rfl
  f99 := Tryz.func105.trans (congrArg some (by kernel_rfl))
  f206 := Tryz.func114.trans (congrArg some (by kernel_rfl))
  t3 := Tryz.underlying3
  a3 := Tryz.isAgg3
  z3 := Tryz.sizeOf3
  v3 := Tryz.zeroValue3
  t4 := Tryz.underlying4
  a4 := Tryz.isAgg4
  z4 := Tryz.sizeOf4
  v4 := Tryz.zeroValue4
  t9 := Tryz.underlying9
  a9 := Tryz.isAgg9
  z9 := Tryz.sizeOf9
  v9 := Tryz.zeroValue9 }
theorem hasPrefix_any (s p : ByteArray) (w : World) : Calls Tryz.prog 105 #[.string s, .string p] w fun e w' => e = .returned (.bool (Lib.hasPrefix s.data.toList p.data.toList)) ∧ w' = w := Any.strings_HasPrefix hasPLays s p w
def trimPRen : Go.Shelf.Ren := ⟨fun | 101 => 99 | 206 => 114 | 208 => 113 | n => n, fun | 3 => 3 | 4 => 4 | 5 => 5 | 9 => 9 | n => n, fun  | n => n⟩
theorem trimPLays : Go.Proofs.Lays.n101 Tryz.prog trimPRen := {
  mixed := by kernel_rfl
  f101 := Tryz.func99.trans (congrArg some (by kernel_rfl))
  f206 := Tryz.func114.trans (congrArg some (by kernel_rfl))
  f208 := Tryz.func113.trans (congrArg some (by kernel_rfl))
  t3 := Tryz.underlying3
  a3 := Tryz.isAgg3
  z3 := Tryz.sizeOf3
  v3 := Tryz.zeroValue3
  t4 := Tryz.underlying4
  a4 := Tryz.isAgg4
  z4 := Tryz.sizeOf4
  v4 := Tryz.zeroValue4
  t9 := Tryz.underlying9
  a9 := Tryz.isAgg9
  z9 := Tryz.sizeOf9
  v9 := Tryz.zeroValue9 }
theorem trimPrefix_any (s p : ByteArray) (w : World) : Calls Tryz.prog 99 #[.string s, .string p] w fun e w' => e = .returned (.string ⟨(Lib.trimPrefix s.data.toList p.data.toList).toArray⟩) ∧ w' = w := Any.strings_TrimPrefix trimPLays s p w

end Go.Proofs.YtcfdfgbobnocnaaGreatDoor
namespace Go.Proofs.YtcfdfgbobnocnaaGreatDoor
open Go.RowKit

/-- A slice of ints that lies below block B and reads as zs. -/
def IntsAtJ (w : World) (B : Nat) (A : Option Addr) (n : Nat) (zs : List Int) : Prop :=
  zs.length = n ∧ ∀ (j : Nat) z, zs[j]? = some z → ∃ b o, A = some ⟨b, o, none⟩ ∧ b < B ∧ w.cell? ⟨b, o + j, none⟩ = some (.int .i64 z)
theorem IntsAtJ.below {w w' : World} {B : Nat} {A : Option Addr} {n : Nat} {zs : List Int} (h : IntsAtJ w B A n zs) (hb : Below B w w') : IntsAtJ w' B A n zs :=
  ⟨h.1, fun j z hz => by
    obtain ⟨b, o, e, hlt, hc⟩ := h.2 j z hz
    exact ⟨b, o, e, hlt, (hb.cell (p := ⟨b, o + j, none⟩) hlt).trans hc⟩⟩
theorem IntsAtJ.more {w : World} {B B' : Nat} {A : Option Addr} {n : Nat} {zs : List Int} (h : IntsAtJ w B A n zs) (hB : B ≤ B') : IntsAtJ w B' A n zs :=
  ⟨h.1, fun j z hz => by
    obtain ⟨b, o, e, hlt, hc⟩ := h.2 j z hz
    exact ⟨b, o, e, by omega, hc⟩⟩

/-- What Join answers: the text and true, or the empty text and false. -/
def joinS (zs : List Int) : ByteArray := match joinL zs with | some l => ⟨l.toArray⟩ | none => ⟨#[]⟩
def joinOk (zs : List Int) : Bool := (joinL zs).isSome
theorem join_ret {zs : List Int} {s : ByteArray} {b : Bool} {B : Nat} {w w' : World} (h1 : joinS zs = s) (h2 : joinOk zs = b) (hw : Below B w w') :
    Ending.returned (.tuple #[.string s, .bool b]) = .returned (.tuple #[.string (joinS zs), .bool (joinOk zs)]) ∧ Below B w w' := by subst h1 h2; exact ⟨rfl, hw⟩
/-- The rest's code points, and what has been written, are all. -/
def JoinTo (zs : List Int) (k : Nat) (done : List UInt8) : Prop := (pairUp (zs.drop k)).map (fun cs => done ++ bytesOf cs) = joinL zs
theorem drop_cons {zs : List Int} {k : Nat} {z : Int} (h : zs[k]? = some z) : zs.drop k = z :: zs.drop (k + 1) := by
  obtain ⟨hlt, rfl⟩ := List.getElem?_eq_some_iff.1 h
  exact List.drop_eq_getElem_cons hlt
theorem JoinTo.one {zs : List Int} {k : Nat} {done : List UInt8} {z : Int} (h : JoinTo zs k done) (hz : zs[k]? = some z) (h0 : ¬ z < 0) (h1 : ¬ 65536 ≤ z) (h2 : halfB z = false) : JoinTo zs (k + 1) (done ++ Lib.encodeRune z) := by
  unfold JoinTo at *
  rw [drop_cons hz, pairUp_one h0 h1 h2, Option.map_map] at h
  rw [← h]
  congr 1
  funext cs
  simp [bytesOf, List.append_assoc]
theorem JoinTo.two {zs : List Int} {k : Nat} {done : List UInt8} {z y : Int} (h : JoinTo zs k done) (hz : zs[k]? = some z) (hy : zs[k + 1]? = some y) (h0 : ¬ z < 0) (h1 : ¬ 65536 ≤ z) (h2 : halfB z = true) (h3 : pairB z y = true) :
    JoinTo zs (k + 2) (done ++ Lib.encodeRune (65536 + 1024 * (z - 55296) + y - 56320)) := by
  unfold JoinTo at *
  rw [drop_cons hz, drop_cons hy, pairUp_two h0 h1 h2 h3, Option.map_map] at h
  rw [← h]
  congr 1
  funext cs
  simp [bytesOf, List.append_assoc]
theorem JoinTo.no {zs : List Int} {k : Nat} {done : List UInt8} (h : JoinTo zs k done) (hn : pairUp (zs.drop k) = none) : joinS zs = ⟨#[]⟩ ∧ joinOk zs = false := by
  unfold JoinTo at h
  rw [hn] at h
  simp [joinS, joinOk, ← h]
theorem JoinTo.done {zs : List Int} {k : Nat} {done : List UInt8} (h : JoinTo zs k done) (hk : zs.length ≤ k) : joinS zs = ⟨done.toArray⟩ ∧ joinOk zs = true := by
  unfold JoinTo at h
  rw [List.drop_eq_nil_of_le hk] at h
  simp [pairUp, bytesOf] at h
  simp [joinS, joinOk, ← h]
theorem encode_len (c : Int) : (Lib.encodeRune c).length ≤ 4 := by
  have := (Lib.encodeRuneZ_length c).2
  simpa [Lib.encodeRune] using this

end Go.Proofs.YtcfdfgbobnocnaaGreatDoor
namespace Go.Proofs.YtcfdfgbobnocnaaGreatDoor
open Go.RowKit

theorem len_data (s : ByteArray) : s.data.toList.length = s.size := Array.length_toList
theorem ext_size (s : ByteArray) (k : Nat) : (s.extract k s.size).size = s.size - k := by simp
theorem ext_data (s : ByteArray) (k : Nat) : (s.extract k s.size).data.toList = s.data.toList.drop k := by
  simp [ByteArray.data_extract, Array.toList_extract, List.extract]
  rw [← len_data s]
  simp
  exact List.take_of_length_le (by simp)
theorem ext_take (s : ByteArray) (n : Nat) : (s.extract 0 n).data.toList = s.data.toList.take n := by
  simp [ByteArray.data_extract, Array.toList_extract, List.extract]
theorem drop_at (s : ByteArray) (k : Nat) (h : k < s.size) : s.data.toList.drop k = s[k] :: s.data.toList.drop (k + 1) := by
  have hl : k < s.data.toList.length := by rw [len_data]; exact h
  rw [List.drop_eq_getElem_cons hl]
  rfl
theorem cons_at (s : ByteArray) (h : 0 < s.size) : s.data.toList = s[0] :: s.data.toList.drop 1 := by
  have := drop_at s 0 h
  rwa [List.drop_zero] at this
theorem drop_all (s : ByteArray) (k : Nat) (h : s.size ≤ k) : s.data.toList.drop k = [] := List.drop_eq_nil_of_le (by rw [len_data]; exact h)
theorem nil_of_size {s : ByteArray} (h : s.size = 0) : s.data.toList = [] := List.eq_nil_of_length_eq_zero (by rw [len_data]; exact h)
theorem empty_yes {s : ByteArray} (h : s.size = 0) : s.toList.isEmpty = true := by
  rw [Lib.toList_data, nil_of_size h]; rfl
theorem empty_no {s : ByteArray} (h : 0 < s.size) : s.toList.isEmpty = false := by
  rw [Lib.toList_data, cons_at s h]; rfl
theorem size_mk (l : List UInt8) : (⟨l.toArray⟩ : ByteArray).size = l.length := by
  show l.toArray.size = _
  simp
theorem mk_of {s : ByteArray} {l : List UInt8} (h : s.data.toList = l) : (⟨l.toArray⟩ : ByteArray) = s := by subst h; simp
def headB (p : UInt8 → Bool) : List UInt8 → Bool
  | [] => false
  | b :: _ => p b
theorem ret_b {a b : Bool} {w : World} (h : a = b) : Ending.returned (.bool a) = .returned (.bool b) ∧ w = w := ⟨by rw [h], rfl⟩
theorem ret_i {a b : Int} (h : a = b) : Ending.returned (.int .i64 a) = .returned (.int .i64 b) := by rw [h]

theorem digU_and (b : UInt8) : digU b = (decide ((48 : Int) ≤ (b.toNat : Int)) && decide ((b.toNat : Int) ≤ (57 : Int))) := by unfold digU digB; rw [Bool.decide_and]

theorem tdigit_any (s : ByteArray) (w : World) : Calls Tryz.prog 103 #[.string s] w fun e w' => e = .returned (.bool (headB digU s.data.toList)) ∧ w = w' := by
  rcases Nat.eq_zero_or_pos s.size with h0 | h0
  · have hr : headB digU s.data.toList = false := by rw [nil_of_size h0]; rfl
    have he := empty_yes h0
    rw [hr]
    clear hr
    go_enter Tryz.func103, Tryz.ntmps103
    go_wp2
    go_ret
    exact ⟨rfl, rfl⟩
  · have hr : headB digU s.data.toList = digU s[0] := by rw [cons_at s h0]; rfl
    have he := empty_no h0
    rw [hr]
    have HD : Hid (digU s[0] = (decide ((48 : Int) ≤ (s[0].toNat : Int)) && decide ((s[0].toNat : Int) ≤ (57 : Int)))) := Lib.hid (digU_and _)
    clear hr
    by_cases c1 : (48 : Int) ≤ (s[0].toNat : Int)
    · by_cases c2 : (s[0].toNat : Int) ≤ (57 : Int)
      · go_enter Tryz.func103, Tryz.ntmps103
        go_wp2
        go_ret
        exact ret_b (by rw [HD.out]; simp [c1, c2])
      · go_enter Tryz.func103, Tryz.ntmps103
        go_wp2
        go_ret
        exact ret_b (by rw [HD.out]; simp [c1, c2])
    · go_enter Tryz.func103, Tryz.ntmps103
      go_wp2
      go_ret
      exact ret_b (by rw [HD.out]; simp; omega)
theorem tletter_any (s : ByteArray) (w : World) : Calls Tryz.prog 104 #[.string s] w fun e w' => e = .returned (.bool (headB letU s.data.toList)) ∧ w = w' := by
  rcases Nat.eq_zero_or_pos s.size with h0 | h0
  · have hr : headB letU s.data.toList = false := by rw [nil_of_size h0]; rfl
    have he := empty_yes h0
    rw [hr]
    clear hr
    go_enter Tryz.func104, Tryz.ntmps104
    go_wp2
    go_ret
    exact ⟨rfl, rfl⟩
  · have hr : nameB (s.extract 0 1).data.toList = headB letU s.data.toList := by rw [ext_take, cons_at s h0]; simp [headB, nameB, tailB, letU]
    have he := empty_no h0
    have h1 : 1 ≤ s.size := h0
    have hN := name_any (s.extract 0 1) w (by simp; omega)
    rw [hr] at hN
    have HN := Lib.hid hN
    clear hr hN
    go_enter Tryz.func104, Tryz.ntmps104
    go_wp2_with fail
    refine HN.out.mono ?_
    rintro e w1 ⟨rfl, rfl⟩
    go_wp2_with fail
    go_ret
    exact ⟨rfl, rfl⟩
end Go.Proofs.YtcfdfgbobnocnaaGreatDoor
namespace Go.Proofs.YtcfdfgbobnocnaaGreatDoor
open Go.Shelf Go.RowKit Go.Sort
def pIntRen : Go.Shelf.Ren := ⟨fun | 129 => 127 | 171 => 119 | 174 => 87 | 205 => 118 | 243 => 120 | 245 => 95 | 246 => 121 | 247 => 94 | 279 => 107 | 280 => 108 | 281 => 109 | 282 => 110 | 283 => 122 | 284 => 123 | 285 => 124 | 286 => 125 | 287 => 106 | 316 => 117 | 317 => 126 | 318 => 128 | 319 => 129 | 320 => 130 | 321 => 115 | 322 => 116 | 337 => 131 | 338 => 132 | n => n, fun | 0 => 0 | 2 => 2 | 3 => 3 | 4 => 4 | 5 => 5 | 9 => 9 | 20 => 20 | 21 => 21 | 37 => 152 | 46 => 79 | 51 => 171 | 53 => 143 | 75 => 122 | 80 => 177 | 85 => 123 | 127 => 158 | 143 => 159 | 145 => 161 | 167 => 142 | 168 => 146 | 171 => 163 | 173 => 166 | 175 => 144 | 210 => 155 | 212 => 170 | 213 => 172 | 232 => 175 | 233 => 176 | n => n, fun | 15 => 1 | 16 => 2 | 17 => 3 | 18 => 4 | 19 => 5 | n => n⟩
theorem pIntLays0 : Go.Proofs.Lays.n174 Tryz.prog pIntRen := {
  mixed := by kernel_rfl
  f129 := Tryz.func127.trans (congrArg some (by kernel_rfl))
  f171 := Tryz.func119.trans (congrArg some (by kernel_rfl))
  f174 := Tryz.func87.trans (congrArg some (by kernel_rfl))
  f205 := Tryz.func118.trans (congrArg some (by kernel_rfl))
  f243 := Tryz.func120.trans (congrArg some (by kernel_rfl))
  f245 := Tryz.func95.trans (congrArg some (by kernel_rfl))
  f246 := Tryz.func121.trans (congrArg some (by kernel_rfl))
  f247 := Tryz.func94.trans (congrArg some (by kernel_rfl))
  f279 := Tryz.func107.trans (congrArg some (by kernel_rfl))
  f280 := Tryz.func108.trans (congrArg some (by kernel_rfl))
  f281 := Tryz.func109.trans (congrArg some (by kernel_rfl))
  f282 := Tryz.func110.trans (congrArg some (by kernel_rfl))
  f283 := Tryz.func122.trans (congrArg some (by kernel_rfl))
  f284 := Tryz.func123.trans (congrArg some (by kernel_rfl))
  f285 := Tryz.func124.trans (congrArg some (by kernel_rfl))
  f286 := Tryz.func125.trans (congrArg some (by kernel_rfl))
  f287 := Tryz.func106.trans (congrArg some (by kernel_rfl))
  f316 := Tryz.func117.trans (congrArg some (by kernel_rfl))
  f317 := Tryz.func126.trans (congrArg some (by kernel_rfl))
  f318 := Tryz.func128.trans (congrArg some (by kernel_rfl))
  f319 := Tryz.func129.trans (congrArg some (by kernel_rfl))
  f320 := Tryz.func130.trans (congrArg some (by kernel_rfl))
  f321 := Tryz.func115.trans (congrArg some (by kernel_rfl))
  f322 := Tryz.func116.trans (congrArg some (by kernel_rfl))
  f337 := Tryz.func131.trans (congrArg some (by kernel_rfl))
  f338 := Tryz.func132.trans (congrArg some (by kernel_rfl))
  t0 := Tryz.underlying0
  a0 := Tryz.isAgg0
  z0 := Tryz.sizeOf0
  v0 := Tryz.zeroValue0
  t2 := Tryz.underlying2
  a2 := Tryz.isAgg2
  z2 := Tryz.sizeOf2
  v2 := Tryz.zeroValue2
  t3 := Tryz.underlying3
  a3 := Tryz.isAgg3
  z3 := Tryz.sizeOf3
  v3 := Tryz.zeroValue3
  t4 := Tryz.underlying4
  a4 := Tryz.isAgg4
  z4 := Tryz.sizeOf4
  v4 := Tryz.zeroValue4
  t5 := Tryz.underlying5
  a5 := Tryz.isAgg5
  z5 := Tryz.sizeOf5
  v5 := Tryz.zeroValue5
  t9 := Tryz.underlying9
  a9 := Tryz.isAgg9
  z9 := Tryz.sizeOf9
  v9 := Tryz.zeroValue9
  t20 := Tryz.underlying20
  a20 := Tryz.isAgg20
  z20 := Tryz.sizeOf20
  v20 := Tryz.zeroValue20
  t21 := Tryz.underlying21
  a21 := Tryz.isAgg21
  z21 := Tryz.sizeOf21
  v21 := Tryz.zeroValue21
  t37 := Tryz.underlying152
  a37 := Tryz.isAgg152
  z37 := Tryz.sizeOf152
  v37 := Tryz.zeroValue152
  t46 := Tryz.underlying79
  a46 := Tryz.isAgg79
  z46 := Tryz.sizeOf79
  v46 := Tryz.zeroValue79
  t51 := Tryz.underlying171
  a51 := Tryz.isAgg171
  z51 := Tryz.sizeOf171
  v51 := Tryz.zeroValue171
  t53 := Tryz.underlying143
  a53 := Tryz.isAgg143
  z53 := Tryz.sizeOf143
  v53 := Tryz.zeroValue143
  t75 := Tryz.underlying122
  a75 := Tryz.isAgg122
  z75 := Tryz.sizeOf122
  v75 := Tryz.zeroValue122
  t85 := Tryz.underlying123
  a85 := Tryz.isAgg123
  z85 := Tryz.sizeOf123
  v85 := Tryz.zeroValue123
  t127 := Tryz.underlying158
  a127 := Tryz.isAgg158
  z127 := Tryz.sizeOf158
  v127 := Tryz.zeroValue158
  t143 := Tryz.underlying159
  a143 := Tryz.isAgg159
  z143 := Tryz.sizeOf159
  v143 := Tryz.zeroValue159
  t145 := Tryz.underlying161
  a145 := Tryz.isAgg161
  z145 := Tryz.sizeOf161
  v145 := Tryz.zeroValue161
  t167 := Tryz.underlying142
  a167 := Tryz.isAgg142
  z167 := Tryz.sizeOf142
  v167 := Tryz.zeroValue142
  t168 := Tryz.underlying146
  a168 := Tryz.isAgg146
  z168 := Tryz.sizeOf146
  v168 := Tryz.zeroValue146
  t171 := Tryz.underlying163
  a171 := Tryz.isAgg163
  z171 := Tryz.sizeOf163
  v171 := Tryz.zeroValue163
  t173 := Tryz.underlying166
  a173 := Tryz.isAgg166
  z173 := Tryz.sizeOf166
  v173 := Tryz.zeroValue166
  t175 := Tryz.underlying144
  a175 := Tryz.isAgg144
  z175 := Tryz.sizeOf144
  v175 := Tryz.zeroValue144
  t210 := Tryz.underlying155
  a210 := Tryz.isAgg155
  z210 := Tryz.sizeOf155
  v210 := Tryz.zeroValue155
  t212 := Tryz.underlying170
  a212 := Tryz.isAgg170
  z212 := Tryz.sizeOf170
  v212 := Tryz.zeroValue170
  t213 := Tryz.underlying172
  a213 := Tryz.isAgg172
  z213 := Tryz.sizeOf172
  t232 := Tryz.underlying175
  a232 := Tryz.isAgg175
  z232 := Tryz.sizeOf175
  v232 := Tryz.zeroValue175
  t233 := Tryz.underlying176
  a233 := Tryz.isAgg176
  z233 := Tryz.sizeOf176
  v233 := Tryz.zeroValue176
  g15 := by kernel_rfl
  g16 := by kernel_rfl
  g17 := by kernel_rfl
  g18 := by kernel_rfl
  g19 := by kernel_rfl }
theorem pIntLays1 : Go.Proofs.LaysM.n174 Tryz.prog pIntRen := { pIntLays0 with
  t80 := Tryz.underlying177
  a80 := Tryz.isAgg177
  z80 := Tryz.sizeOf177
  v80 := Tryz.zeroValue177
  i0 := by kernel_rfl
  i2 := by kernel_rfl
  i3 := by kernel_rfl
  i4 := by kernel_rfl
  i5 := by kernel_rfl
  i9 := by kernel_rfl
  i20 := by kernel_rfl
  i21 := by kernel_rfl
  i37 := by kernel_rfl
  i46 := by kernel_rfl
  i51 := by kernel_rfl
  i53 := by kernel_rfl
  i75 := by kernel_rfl
  i80 := by kernel_rfl
  i85 := by kernel_rfl
  i127 := by kernel_rfl
  i143 := by kernel_rfl
  i145 := by kernel_rfl
  i167 := by kernel_rfl
  i168 := by kernel_rfl
  i171 := by kernel_rfl
  i173 := by kernel_rfl
  i175 := by kernel_rfl
  i210 := by kernel_rfl
  i212 := by kernel_rfl
  i232 := by kernel_rfl
  i233 := by kernel_rfl
  m15 := by kernel_rfl
  m16 := by kernel_rfl
  m17 := by kernel_rfl
  m18 := by kernel_rfl
  m19 := by kernel_rfl }
theorem pIntLays : Go.Proofs.LaysC.n174 Tryz.prog pIntRen := { pIntLays1 with
  c0 := by kernel_rfl
  c2 := by kernel_rfl
  c3 := by kernel_rfl
  c4 := by kernel_rfl
  c5 := by kernel_rfl
  c9 := by kernel_rfl
  c20 := by kernel_rfl
  c21 := by kernel_rfl
  c37 := by kernel_rfl
  c46 := by kernel_rfl
  c51 := by kernel_rfl
  c53 := by kernel_rfl
  c75 := by kernel_rfl
  c80 := by kernel_rfl
  c85 := by kernel_rfl
  c127 := by kernel_rfl
  c143 := by kernel_rfl
  c145 := by kernel_rfl
  c167 := by kernel_rfl
  c168 := by kernel_rfl
  c171 := by kernel_rfl
  c173 := by kernel_rfl
  c175 := by kernel_rfl
  c210 := by kernel_rfl
  c212 := by kernel_rfl
  c213 := by kernel_rfl
  c232 := by kernel_rfl
  c233 := by kernel_rfl }
/-- The listed variables that values lean on: the shapes of code points, the library's ErrRange, its table of powers. -/
def Laid5 (w : World) : Prop := TabAt w ∧ (∃ te pe, w.cell? ⟨2, 0, none⟩ = some (.iface te pe)) ∧ Lib.TabIs Tryz.prog w "internal/strconv.uint64pow10" .u64 Lib.pow10Tab
theorem gPow : Tryz.prog.globalNamed "internal/strconv.uint64pow10" = some 3 := by kernel_rfl
theorem lt_cell {w : World} {b o : Nat} {v : Value} (h : w.cell? ⟨b, o, none⟩ = some v) : b < w.heap.size := World.block_lt_of_cell? w _ h
theorem Laid5.below {w w' : World} (h : Laid5 w) (hb : Below w.heap.size w w') : Laid5 w' := by
  obtain ⟨ht, ⟨te, pe, hc⟩, hp⟩ := h
  exact ⟨ht.below hb ht.lt, ⟨te, pe, (hb.cell (p := ⟨2, 0, none⟩) (lt_cell hc)).trans hc⟩, Go.Joins.var_stays gPow hp hb (Nat.le_refl _)⟩
/-- What the walks keep of the world w at which they began. -/
def K5 (w wx : World) : Prop := Laid5 wx ∧ Below w.heap.size w wx
theorem K5.start {w : World} (h : Laid5 w) : K5 w w := ⟨h, Below.refl _ _⟩
theorem K5.next {w wx wy : World} (h : K5 w wx) (hb : Below wx.heap.size wx wy) : K5 w wy := ⟨h.1.below hb, h.2.trans (hb.mono h.2.size)⟩
theorem K5.alloc {w wx : World} (h : K5 w wx) (o : Obj) : K5 w (wx.alloc o) := h.next ((Below.refl _ _).alloc (Nat.le_refl _) o)
/-- ParseInt at base 10 of digits that fit, and of digits that do not. -/
theorem parseInt_yes (s : ByteArray) (hs : s.size ≤ 1100000) (hk : kindL s.data.toList = 3) (hf : fits64 (intN s.data.toList) = true) (w : World) :
    Calls Tryz.prog 87 #[.string s, .int .i64 10, .int .i64 64] w fun e w' => e = .returned (.tuple #[.int .i64 (intN s.data.toList), .nilIface]) ∧ Below w.heap.size w w' := by
  have hp := parse_int hk
  rw [if_pos hf] at hp
  refine (Any.strconv_ParseInt_10_at64_ok pIntLays s (by omega) _ hp w).mono ?_
  rintro e w' ⟨he, h | ⟨t, h⟩⟩
  · subst h; exact ⟨he, Below.refl _ _⟩
  · subst h; exact ⟨he, Lib.bytesWorld_below _ _ _⟩
theorem parseInt_no (s : ByteArray) (hs : s.size ≤ 1100000) (hk : kindL s.data.toList = 3) (hf : fits64 (intN s.data.toList) = false) (w : World) (hw : Laid5 w) :
    Calls Tryz.prog 87 #[.string s, .int .i64 10, .int .i64 64] w fun e w' => (∃ z N, e = .returned (.tuple #[.int .i64 z, .iface 146 (.pointer (some ⟨N, 0, none⟩))])) ∧ Below w.heap.size w w' := by
  have hp := parse_int hk
  rw [if_neg (by rw [hf]; simp)] at hp
  obtain ⟨_, ⟨te, pe, hc⟩, _⟩ := hw
  refine (Any.strconv_ParseInt_10_at64_range pIntLays s (by omega) hp (.iface te pe) w hc (Or.inr ⟨te, pe, rfl⟩)).mono ?_
  rintro e w' ⟨N, he, _, _, hb⟩
  exact ⟨⟨_, N, he⟩, hb⟩
theorem below_grow (w : World) (n : Nat) (os : Array Obj) : Below w.heap.size w (grow (w.drewN n) os) := by
  refine ⟨rfl, rfl, rfl, ?_, ?_⟩
  · show w.heap.size ≤ (w.heap ++ os).size
    simp
  · intro b hb
    show (w.heap ++ os)[b]? = w.heap[b]?
    rw [Array.getElem?_append_left hb]
end Go.Proofs.YtcfdfgbobnocnaaGreatDoor
