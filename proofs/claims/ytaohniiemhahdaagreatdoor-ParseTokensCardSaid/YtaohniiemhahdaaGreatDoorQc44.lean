/- The walk of token.writeUnits. -/
import Derived.Test.YtaohniiemhahdaaGreatDoorQc43
import Derived.Lib.TrimUEq
import Derived.Lib.OthersKept
import Derived.Laws.Cover4
namespace Go.Proofs.YtaohniiemhahdaaGreatDoor
open Go.RowKit

/-- A slice of ints that lies in a row of its own and reads as zs: it stands while a builder is written. -/
def IntsRow (w : World) (A : Option Addr) (n : Nat) (zs : List Int) : Prop :=
  zs.length = n ∧ (zs = [] ∨ ∃ g c fz, A = some ⟨g, 0, none⟩ ∧ w.heap[g]? = some (.cells c 3 fz) ∧ ∀ (j : Nat) z, zs[j]? = some z → c[j]? = some (.int .i64 z))
theorem IntsRow.at {w : World} {A : Option Addr} {n : Nat} {zs : List Int} (h : IntsRow w A n zs) {j : Nat} {z : Int} (hz : zs[j]? = some z) : ∃ g o, A = some ⟨g, o, none⟩ ∧ w.cell? ⟨g, o + j, none⟩ = some (.int .i64 z) := by
  rcases h.2 with rfl | ⟨g, c, fz, e, hh, hc⟩
  · simp at hz
  · exact ⟨g, 0, e, by simp [World.cell?, hh, hc j z hz]⟩
theorem row_of_own {w : World} {base n : Nat} {A : Option Addr} {cap : Nat} {us : List Int} (h : w.ownsRow base 3 1 (.slice A n cap) us.length (us.map (Value.int .i64))) : IntsRow w A us.length us := by
  have h0 := h
  rcases h.2 with ⟨hv, hn⟩ | ⟨g, c, cur, hv, hbase, hh, hnc, hm, hcs, htk⟩
  · exact ⟨rfl, .inl (List.eq_nil_of_length_eq_zero hn)⟩
  · injection hv with h1 h2 h3
    subst h1 h2 h3
    refine ⟨rfl, .inr ⟨g, cur, _, rfl, hh, fun j z hz => ?_⟩⟩
    have := World.ownsRow.cellAt h0 j (by have := (List.getElem?_eq_some_iff.1 hz).1; omega)
    rw [List.getElem?_map, hz] at this
    simpa [World.cell?, hh] using this
/-- What all calls on a builder keep. -/
theorem IntsRow.kept {w w' : World} {A : Option Addr} {n b B : Nat} {zs : List Int} {bs : List Value} (h : IntsRow w A n zs) (hB : Lib.IsBuilderF 96 5 B b bs w) (ho : Lib.OthersKept 5 (some b) w w') : IntsRow w' A n zs := by
  refine ⟨h.1, h.2.imp_right fun ⟨g, c, fz, e, hh, hc⟩ => ⟨g, c, fz, e, ho g _ hh ?_ ?_, hc⟩⟩
  · intro e1
    injection e1 with e1
    subst e1
    rcases hB with ⟨_, v, hb, _⟩ | ⟨_, v, hb, _⟩ <;> (rw [hh] at hb; injection hb with hb; injection hb with _ h2 _; exact absurd h2 (by decide))
  · intro c' fz' e1
    injection e1 with _ h2 _
    exact absurd h2 (by decide)

set_option maxRecDepth 100000 in
theorem units_row (s : ByteArray) (w : World) (hs : s.size ≤ 9000) (ht : TabAt w) :
    Calls Tryz.prog 167 #[.string s] w fun e w' => ∃ A c, e = .returned (.tuple #[.slice A (unitsS s.data.toList).length c, .bool (goodB s.data.toList)]) ∧ IntsRow w' A (unitsS s.data.toList).length (unitsS s.data.toList) ∧ Below w.heap.size w w' := by
  have hmf : ∀ (fn : Fn) (first cap : Array Value) (w : World), (Instr.makeFunc fn first cap).run Tryz.prog w = .ok (.func fn first cap) w := fun _ _ _ _ => rfl
  have hO : OutAt w.heap.size [] (w.alloc (.cells #[.slice none 0 0] 164)) := ⟨.slice none 0 0, heap_alloc_new w _, World.ownsRow_nil _ _ _ _⟩
  have hb0 : Below w.heap.size w (w.alloc (.cells #[.slice none 0 0] 164)) := (Below.refl _ _).alloc (Nat.le_refl _) _
  have HE := Lib.hid (each_units s w.heap.size (w.alloc (.cells #[.slice none 0 0] 164)) hs (ht.below hb0 ht.lt) hO ht.lt)
  have HB0 := Lib.hid hb0
  clear ht hO hb0
  go_enter Tryz.func167, Tryz.ntmps167
  go_wp2_with fail
  refine HE.out.mono ?_
  rintro e w1 ⟨rfl, hb, cs, hO, hcs⟩
  have hB : Hid (Below w.heap.size w w1) := Lib.hid (HB0.out.trans hb)
  cases hg : goodB s.data.toList
  · have HG := Lib.hid hg
    have hu : Hid (unitsS s.data.toList = []) := Lib.hid (by
      rw [goodB_iff] at hg
      unfold unitsS
      cases hc : codes s.data.toList with
      | none => rfl
      | some cs => rw [hc] at hg; cases hg)
    clear hcs hO hb hg
    go_wp2_with fail
    go_ret2
    exact ⟨none, 0, by rw [hu.out, HG.out]; rfl, by rw [hu.out]; exact ⟨rfl, .inl rfl⟩, hB.out⟩
  · have HG := Lib.hid hg
    have hu : Hid (unitsS s.data.toList = unitsOf cs) := Lib.hid (by unfold unitsS; rw [hcs hg])
    obtain ⟨v, hh, hown⟩ := hO
    obtain ⟨A, cap, rfl⟩ := own_form hown
    have c0 : w1.cell? ⟨w.heap.size, 0, none⟩ = some (.slice A (unitsOf cs).length cap) := by simp [World.cell?, hh]
    have hI := Lib.hid (row_of_own hown)
    clear hcs hh hown hb hg
    go_wp2_with fail
    go_ret2
    exact ⟨A, cap, by rw [hu.out, HG.out]; rfl, by rw [hu.out]; exact hI.out, hB.out⟩

abbrev hexC : ByteArray := ⟨#[48, 49, 50, 51, 52, 53, 54, 55, 56, 57, 97, 98, 99, 100, 101, 102]⟩
set_option maxRecDepth 100000 in
theorem hex_index {d : Nat} (h : d < 16) : ∀ w, (Instr.index 9 (.string hexC) (.int .i64 (d : Int))).run Tryz.prog w = .ok (.int .u8 ((hexD (d : Int)).toNat : Int)) w := by
  rcases (by omega : d = 0 ∨ d = 1 ∨ d = 2 ∨ d = 3 ∨ d = 4 ∨ d = 5 ∨ d = 6 ∨ d = 7 ∨ d = 8 ∨ d = 9 ∨ d = 10 ∨ d = 11 ∨ d = 12 ∨ d = 13 ∨ d = 14 ∨ d = 15) with rfl | rfl | rfl | rfl | rfl | rfl | rfl | rfl | rfl | rfl | rfl | rfl | rfl | rfl | rfl | rfl
  all_goals exact fun w => by kernel_rfl
theorem others_below {b : Option Nat} {w w' : World} (h : Below w.heap.size w w') : Lib.OthersKept 5 b w w' := fun k o hk _ _ => by
  have hlt : k < w.heap.size := (Array.getElem?_eq_some_iff.1 hk).1
  rw [h.block k hlt, hk]
abbrev IsB (B b : Nat) (l : List UInt8) (w : World) : Prop := Lib.IsBuilderF 96 5 B b (Lib.byteCells l) w
theorem isB_byte {B b : Nat} {l : List UInt8} {x : UInt8} {w : World} {p : Value} (hp : p = .pointer (some ⟨b, 0, none⟩)) (h : Lib.BuilderAtF 96 5 B b p (Lib.byteCells l ++ [.int .u8 (x.toNat : Int)]) w) : IsB B b (l ++ [x]) w := by
  subst hp
  refine .inr ?_
  rwa [show Lib.byteCells l ++ [Value.int .u8 (x.toNat : Int)] = Lib.byteCells (l ++ [x]) by simp [Lib.byteCells]] at h
theorem isB_str {B b : Nat} {l x : List UInt8} {w : World} {p : Value} (hp : p = .pointer (some ⟨b, 0, none⟩)) (h : Lib.BuilderAtF 96 5 B b p (Lib.byteCells l ++ Lib.strCells ⟨x.toArray⟩) w) : IsB B b (l ++ x) w := by
  subst hp
  refine .inr ?_
  rwa [show Lib.byteCells l ++ Lib.strCells ⟨x.toArray⟩ = Lib.byteCells (l ++ x) by rw [Lib.strCells_eq]; simp [Lib.byteCells]] at h
theorem write1 (B b : Nat) (l : List UInt8) (x : UInt8) (w : World) (h : IsB B b l w) (hl : l.length ≤ 1000000) (hB : B ≤ w.heap.size) :
    Calls Tryz.prog 49 #[.pointer (some ⟨b, 0, none⟩), .int .u8 (x.toNat : Int)] w fun e w' => e = .returned .nilIface ∧ IsB B b (l ++ [x]) w' ∧ Below B w w' ∧ Lib.OthersKept 5 (some b) w w' :=
  (writeByte B b (Lib.byteCells l) (x.toNat : Int) w h (by rw [Lib.byteCells_length]; omega) hB).mono fun _ _ ⟨he, h1, h2, h3⟩ => ⟨he, isB_byte rfl h1, h2, h3⟩
theorem writeS (B b : Nat) (l x : List UInt8) (w : World) (h : IsB B b l w) (hl : l.length ≤ 1000000) (hx : x.length ≤ 1000000) (hB : B ≤ w.heap.size) :
    Calls Tryz.prog 51 #[.pointer (some ⟨b, 0, none⟩), .string ⟨x.toArray⟩] w fun e w' => e = .returned (.tuple #[.int .i64 (x.length : Nat), .nilIface]) ∧ IsB B b (l ++ x) w' ∧ Below B w w' ∧ Lib.OthersKept 5 (some b) w w' :=
  (writeString B b (Lib.byteCells l) ⟨x.toArray⟩ w h (by rw [Lib.byteCells_length, size_mk]; omega) hB).mono fun _ _ ⟨he, h1, h2, h3⟩ => ⟨by rw [he, size_mk], isB_str rfl h1, h2, h3⟩

set_option maxRecDepth 100000 in
set_option maxHeartbeats 4000000 in
theorem writeUnits_any (B b : Nat) (done : List UInt8) (s : ByteArray) (w : World) (h : IsB B b done w) (hs : s.size ≤ 4000) (hd : done.length ≤ 900000) (hB : B ≤ w.heap.size) (ht : TabAt w) (hu : (unitsS s.data.toList).length ≤ 4000) (hr : ∀ z ∈ unitsS s.data.toList, 0 ≤ z ∧ z ≤ 65535) :
    Calls Tryz.prog 116 #[.pointer (some ⟨b, 0, none⟩), .string s] w fun e w' => e = .returned (.tuple #[]) ∧ IsB B b (done ++ (unitsS s.data.toList).flatMap hexText) w' ∧ Below B w w' ∧ Lib.OthersKept 5 (some b) w w' := by
  have HU := Lib.hid (units_row s w (by omega) ht)
  generalize unitsS s.data.toList = us at *
  have HR := Lib.hid hr
  have HI := Lib.hid h
  clear ht hr h
  go_enter Tryz.func116, Tryz.ntmps116
  go_wp2_with fail
  refine HU.out.mono ?_
  rintro e w1 ⟨A, c, rfl, hI, hb1⟩
  have HI1 := Lib.hid hI
  have HB1 := Lib.hid (builder_below HI.out hb1 : IsB B b done w1)
  have HBb := Lib.hid (hb1.mono hB)
  have HO := Lib.hid (others_below (b := some b) hb1)
  have hs1 := hb1.size
  clear hI hb1 HU
  go_wp2
  go_loopg [16] us.length (fun g i wx => ∃ k : Nat, k + g = us.length ∧ i = .int .i64 k ∧ Aside (IsB B b (done ++ (us.take k).flatMap hexText) wx) ∧ Below B w1 wx ∧ Aside (Lib.OthersKept 5 (some b) w1 wx))
  case atStart => exact ⟨0, by omega, rfl, Aside.intro (by simpa using HB1.out), Below.refl _ _, Aside.intro (Lib.OthersKept.refl _ _ _)⟩
  case round =>
    obtain ⟨k, hk, rfl, HX, hb, HY⟩ := hrel
    have hbs := hb.size
    have HBx := Lib.hid hb
    clear hb
    by_cases hlt : k < us.length
    · have hlt' : (k : Int) < (us.length : Int) := by omega
      have hk0 : (0 : Int) ≤ (k : Int) := by omega
      obtain ⟨z, hz⟩ : ∃ z, us[k]? = some z := ⟨_, List.getElem?_eq_getElem hlt⟩
      obtain ⟨gA, oA, rfl, c0⟩ := (HI1.out.kept HB1.out HY.out).at hz
      have hzr := HR.out z (List.mem_of_getElem? hz)
      have HK : Hid (done ++ (us.take (k + 1)).flatMap hexText = (done ++ (us.take k).flatMap hexText) ++ hexText z) := Lib.hid (by rw [take_text hz, List.append_assoc])
      have hlen : (done ++ (us.take k).flatMap hexText).length ≤ 950000 := by
        rw [List.length_append, text_len, List.length_take]; omega
      have HW := Lib.hid (writeS B b (done ++ (us.take k).flatMap hexText) [92, 117] wr HX.out (by omega) (by decide) (by omega))
      generalize done ++ (us.take k).flatMap hexText = pre0 at *
      clear hz HX
      go_wp2_with fail
      refine HW.out.mono ?_
      rintro e w2 ⟨rfl, hX2, hb2, ho2⟩
      have HX2 := Lib.hid hX2
      have HO2 := Lib.hid ho2
      have HB2 := Lib.hid (HBx.out.trans hb2)
      have hs2 : w1.heap.size ≤ w2.heap.size := by have := hb2.size; omega
      have HOx := Lib.hid (HY.out.trans ho2)
      clear hX2 hb2 ho2 HY HW
      go_wp2_with fail
      go_loopg [8] 4 (fun g2 kv wx => ∃ (j : Nat) (kk : Int), j + g2 = 4 ∧ kv = .int .i64 kk ∧ kk = 12 - 4 * (j : Int) ∧ Aside (IsB B b (pre0 ++ (hexText z).take (2 + j)) wx) ∧ Below B w1 wx ∧ Aside (Lib.OthersKept 5 (some b) w1 wx))
      case atStart => exact ⟨0, 12, by omega, rfl, rfl, Aside.intro HX2.out, HB2.out, Aside.intro HOx.out⟩
      case round =>
        obtain ⟨j, kk, hj, rfl, hkk, HX3, hb3, HY3⟩ := hrel
        have hs3 := hb3.size
        have HB3 := Lib.hid hb3
        clear hb3
        rcases (by omega : j = 0 ∨ j = 1 ∨ j = 2 ∨ j = 3 ∨ j = 4) with rfl | rfl | rfl | rfl | rfl
        · obtain rfl : kk = 12 := by omega
          clear hkk
          obtain ⟨d, hd⟩ : ∃ d : Nat, z / 4096 % 16 = d := ⟨(z / 4096 % 16).toNat, by omega⟩
          have hd16 : d < 16 := by omega
          have e1 : bits .and .i64 (z / 4096) 15 = (d : Int) := by rw [and_low4 (by omega) (by omega)]; exact hd
          have s1 := hex_index hd16
          have HW := Lib.hid (write1 B b (pre0 ++ (hexText z).take (2 + 0)) (hexD (d : Int)) wr HX3.out (by rw [List.length_append]; simp [hexText]; omega) (by omega))
          have HD : Hid ((pre0 ++ (hexText z).take (2 + 0)) ++ [hexD (d : Int)] = pre0 ++ (hexText z).take (2 + 1)) := Lib.hid (by
            rw [← hd, List.append_assoc]
            rfl)
          clear HX3 hd
          go_wp2_with fail
          refine HW.out.mono ?_
          rintro e w3 ⟨rfl, hX4, hb4, ho4⟩
          have HX4 := Lib.hid hX4
          have HB4 := Lib.hid (HB3.out.trans hb4)
          have HO4 := Lib.hid (HY3.out.trans ho4)
          clear hX4 hb4 ho4 HW
          go_wp2_with fail
          go_roundg (gk - 1)
          case measure => omega
          case rel => exact ⟨1, 8, by omega, by go_num, by omega, Aside.intro (by rw [← HD.out]; exact HX4.out), HB4.out, Aside.intro HO4.out⟩
        · obtain rfl : kk = 8 := by omega
          clear hkk
          obtain ⟨d, hd⟩ : ∃ d : Nat, z / 256 % 16 = d := ⟨(z / 256 % 16).toNat, by omega⟩
          have hd16 : d < 16 := by omega
          have e1 : bits .and .i64 (z / 256) 15 = (d : Int) := by rw [and_low4 (by omega) (by omega)]; exact hd
          have s1 := hex_index hd16
          have HW := Lib.hid (write1 B b (pre0 ++ (hexText z).take (2 + 1)) (hexD (d : Int)) wr HX3.out (by rw [List.length_append]; simp [hexText]; omega) (by omega))
          have HD : Hid ((pre0 ++ (hexText z).take (2 + 1)) ++ [hexD (d : Int)] = pre0 ++ (hexText z).take (2 + 2)) := Lib.hid (by
            rw [← hd, List.append_assoc]
            rfl)
          clear HX3 hd
          go_wp2_with fail
          refine HW.out.mono ?_
          rintro e w3 ⟨rfl, hX4, hb4, ho4⟩
          have HX4 := Lib.hid hX4
          have HB4 := Lib.hid (HB3.out.trans hb4)
          have HO4 := Lib.hid (HY3.out.trans ho4)
          clear hX4 hb4 ho4 HW
          go_wp2_with fail
          go_roundg (gk - 1)
          case measure => omega
          case rel => exact ⟨2, 4, by omega, by go_num, by omega, Aside.intro (by rw [← HD.out]; exact HX4.out), HB4.out, Aside.intro HO4.out⟩
        · obtain rfl : kk = 4 := by omega
          clear hkk
          obtain ⟨d, hd⟩ : ∃ d : Nat, z / 16 % 16 = d := ⟨(z / 16 % 16).toNat, by omega⟩
          have hd16 : d < 16 := by omega
          have e1 : bits .and .i64 (z / 16) 15 = (d : Int) := by rw [and_low4 (by omega) (by omega)]; exact hd
          have s1 := hex_index hd16
          have HW := Lib.hid (write1 B b (pre0 ++ (hexText z).take (2 + 2)) (hexD (d : Int)) wr HX3.out (by rw [List.length_append]; simp [hexText]; omega) (by omega))
          have HD : Hid ((pre0 ++ (hexText z).take (2 + 2)) ++ [hexD (d : Int)] = pre0 ++ (hexText z).take (2 + 3)) := Lib.hid (by
            rw [← hd, List.append_assoc]
            rfl)
          clear HX3 hd
          go_wp2_with fail
          refine HW.out.mono ?_
          rintro e w3 ⟨rfl, hX4, hb4, ho4⟩
          have HX4 := Lib.hid hX4
          have HB4 := Lib.hid (HB3.out.trans hb4)
          have HO4 := Lib.hid (HY3.out.trans ho4)
          clear hX4 hb4 ho4 HW
          go_wp2_with fail
          go_roundg (gk - 1)
          case measure => omega
          case rel => exact ⟨3, 0, by omega, by go_num, by omega, Aside.intro (by rw [← HD.out]; exact HX4.out), HB4.out, Aside.intro HO4.out⟩
        · obtain rfl : kk = 0 := by omega
          clear hkk
          obtain ⟨d, hd⟩ : ∃ d : Nat, z % 16 = d := ⟨(z % 16).toNat, by omega⟩
          have hd16 : d < 16 := by omega
          have e1 : bits .and .i64 z 15 = (d : Int) := by rw [and_low4 (by omega) (by omega)]; exact hd
          have s1 := hex_index hd16
          have HW := Lib.hid (write1 B b (pre0 ++ (hexText z).take (2 + 3)) (hexD (d : Int)) wr HX3.out (by rw [List.length_append]; simp [hexText]; omega) (by omega))
          have HD : Hid ((pre0 ++ (hexText z).take (2 + 3)) ++ [hexD (d : Int)] = pre0 ++ (hexText z).take (2 + 4)) := Lib.hid (by
            rw [← hd, List.append_assoc]
            rfl)
          clear HX3 hd
          go_wp2_with fail
          refine HW.out.mono ?_
          rintro e w3 ⟨rfl, hX4, hb4, ho4⟩
          have HX4 := Lib.hid hX4
          have HB4 := Lib.hid (HB3.out.trans hb4)
          have HO4 := Lib.hid (HY3.out.trans ho4)
          clear hX4 hb4 ho4 HW
          go_wp2_with fail
          go_roundg (gk - 1)
          case measure => omega
          case rel => exact ⟨4, -4, by omega, by go_num, by omega, Aside.intro (by rw [← HD.out]; exact HX4.out), HB4.out, Aside.intro HO4.out⟩
        · obtain rfl : kk = -4 := by omega
          clear hkk
          have HD : Hid (pre0 ++ (hexText z).take (2 + 4) = pre0 ++ hexText z) := Lib.hid rfl
          go_wp2_with fail
          go_roundg (us.length - (k + 1))
          case measure => omega
          case rel => exact ⟨k + 1, by omega, by go_num, Aside.intro (by rw [HK.out, ← HD.out]; exact HX3.out), HB3.out, Aside.intro HY3.out⟩
    · obtain rfl : k = us.length := by omega
      have HX' := Lib.hid HX.out
      rw [List.take_of_length_le (Nat.le_refl _)] at HX'
      go_wp2
      go_end0
      exact ⟨rfl, HX'.out, HBb.out.trans HBx.out, HO.out.trans HY.out⟩
end Go.Proofs.YtaohniiemhahdaaGreatDoor

/- Plain facts: what the language reads at the head of a list of bytes that begins with a code point. -/
namespace Go.Proofs.YtaohniiemhahdaaGreatDoor

theorem decN1 {n x0 x1 x2 x3 c : Nat} (h0 : x0 = c) (hc : c ≤ 127) : Lib.decodeN n x0 x1 x2 x3 = (c, 1) := by
  unfold Lib.decodeN
  rw [if_pos (by omega), h0]
theorem decN2 {n x0 x1 x2 x3 c : Nat} (hn : 2 ≤ n) (h0 : x0 = 192 + c / 64) (h1 : x1 = 128 + c % 64) (hc : 128 ≤ c) (hc' : c ≤ 2047) : Lib.decodeN n x0 x1 x2 x3 = (c, 2) := by
  unfold Lib.decodeN
  rw [if_neg (by omega), if_pos (by omega), if_pos (by omega)]
  congr 1
  omega
theorem decN3 {n x0 x1 x2 x3 c : Nat} (hn : 3 ≤ n) (h0 : x0 = 224 + c / 4096) (h1 : x1 = 128 + c / 64 % 64) (h2 : x2 = 128 + c % 64) (hc : 2048 ≤ c) (hc' : c ≤ 65535) (hh : ¬ (55296 ≤ c ∧ c ≤ 57343)) : Lib.decodeN n x0 x1 x2 x3 = (c, 3) := by
  have e : x0 % 16 * 4096 + x1 % 64 * 64 + x2 % 64 = c := by omega
  unfold Lib.decodeN
  rw [e, if_neg (by omega), if_neg (by omega), if_pos (by omega), if_pos (by omega)]
theorem decN4 {n x0 x1 x2 x3 c : Nat} (hn : 4 ≤ n) (h0 : x0 = 240 + c / 262144) (h1 : x1 = 128 + c / 4096 % 64) (h2 : x2 = 128 + c / 64 % 64) (h3 : x3 = 128 + c % 64) (hc : 65536 ≤ c) (hc' : c ≤ 1114111) : Lib.decodeN n x0 x1 x2 x3 = (c, 4) := by
  have e : x0 % 8 * 262144 + x1 % 64 * 4096 + x2 % 64 * 64 + x3 % 64 = c := by omega
  unfold Lib.decodeN
  rw [e, if_neg (by omega), if_neg (by omega), if_neg (by omega), if_pos (by omega), if_pos (by omega)]
theorem decL_enc {c : Int} (h : okB c = true) (t : List UInt8) : Lib.decodeL (Lib.encodeRune c ++ t) = (c.toNat, (Lib.encodeRune c).length) := by
  have hok : 0 ≤ c ∧ c ≤ 1114111 ∧ halfB c = false := by simpa [okB] using h
  obtain ⟨h0, h1, h2⟩ := hok
  have hh : ¬ (55296 ≤ c ∧ c ≤ 57343) := by simpa [halfB] using h2
  rw [Lib.decodeL_N]
  by_cases a1 : c ≤ 127
  · have e : Lib.encodeRune c = [c.toNat.toUInt8] := by simp [Lib.encodeRune, Lib.encodeRuneZ_one h0 a1]
    rw [e]
    have b0 : byt ([c.toNat.toUInt8] ++ t) 0 = c := toNat_ofInt h0 (by omega)
    unfold byt at b0
    generalize [c.toNat.toUInt8] ++ t = l at *
    exact decN1 (by omega) (by omega)
  by_cases a2 : c ≤ 2047
  · have e : Lib.encodeRune c = [(192 + c / 64).toNat.toUInt8, (128 + c % 64).toNat.toUInt8] := by simp [Lib.encodeRune, Lib.encodeRuneZ_two (by omega) a2]
    rw [e]
    generalize hx : (192 + c / 64).toNat.toUInt8 = x
    generalize hy : (128 + c % 64).toNat.toUInt8 = y
    have b0 : byt ([x, y] ++ t) 0 = 192 + c / 64 := by rw [← hx]; exact toNat_ofInt (by omega) (by omega)
    have b1 : byt ([x, y] ++ t) 1 = 128 + c % 64 := by rw [← hy]; exact toNat_ofInt (by omega) (by omega)
    have hl : 2 ≤ ([x, y] ++ t).length := by simp
    unfold byt at b0 b1
    generalize [x, y] ++ t = l at *
    exact decN2 hl (by omega) (by omega) (by omega) (by omega)
  by_cases a3 : c ≤ 65535
  · have e : Lib.encodeRune c = [(224 + c / 4096).toNat.toUInt8, (128 + c / 64 % 64).toNat.toUInt8, (128 + c % 64).toNat.toUInt8] := by simp [Lib.encodeRune, Lib.encodeRuneZ_three (show (2048 ≤ c ∧ c < 55296) ∨ (57343 < c ∧ c ≤ 65535) by omega)]
    rw [e]
    generalize hx : (224 + c / 4096).toNat.toUInt8 = x
    generalize hy : (128 + c / 64 % 64).toNat.toUInt8 = y
    generalize hz : (128 + c % 64).toNat.toUInt8 = z
    have b0 : byt ([x, y, z] ++ t) 0 = 224 + c / 4096 := by rw [← hx]; exact toNat_ofInt (by omega) (by omega)
    have b1 : byt ([x, y, z] ++ t) 1 = 128 + c / 64 % 64 := by rw [← hy]; exact toNat_ofInt (by omega) (by omega)
    have b2 : byt ([x, y, z] ++ t) 2 = 128 + c % 64 := by rw [← hz]; exact toNat_ofInt (by omega) (by omega)
    have hl : 3 ≤ ([x, y, z] ++ t).length := by simp
    unfold byt at b0 b1 b2
    generalize [x, y, z] ++ t = l at *
    exact decN3 hl (by omega) (by omega) (by omega) (by omega) (by omega) (by omega)
  · have e : Lib.encodeRune c = [(240 + c / 262144).toNat.toUInt8, (128 + c / 4096 % 64).toNat.toUInt8, (128 + c / 64 % 64).toNat.toUInt8, (128 + c % 64).toNat.toUInt8] := by simp [Lib.encodeRune, Lib.encodeRuneZ_four (show 65536 ≤ c by omega) h1]
    rw [e]
    generalize hx : (240 + c / 262144).toNat.toUInt8 = x
    generalize hy : (128 + c / 4096 % 64).toNat.toUInt8 = y
    generalize hz : (128 + c / 64 % 64).toNat.toUInt8 = z
    generalize hu : (128 + c % 64).toNat.toUInt8 = u
    have b0 : byt ([x, y, z, u] ++ t) 0 = 240 + c / 262144 := by rw [← hx]; exact toNat_ofInt (by omega) (by omega)
    have b1 : byt ([x, y, z, u] ++ t) 1 = 128 + c / 4096 % 64 := by rw [← hy]; exact toNat_ofInt (by omega) (by omega)
    have b2 : byt ([x, y, z, u] ++ t) 2 = 128 + c / 64 % 64 := by rw [← hz]; exact toNat_ofInt (by omega) (by omega)
    have b3 : byt ([x, y, z, u] ++ t) 3 = 128 + c % 64 := by rw [← hu]; exact toNat_ofInt (by omega) (by omega)
    have hl : 4 ≤ ([x, y, z, u] ++ t).length := by simp
    unfold byt at b0 b1 b2 b3
    generalize [x, y, z, u] ++ t = l at *
    exact decN4 hl (by omega) (by omega) (by omega) (by omega) (by omega) (by omega)
/-- At place k of a text whose rest is encoded so. -/
theorem decode_enc {s : ByteArray} {k : Nat} {c : Int} {t : List UInt8} (h : okB c = true) (hd : s.data.toList.drop k = Lib.encodeRune c ++ t) : Utf8.decode s k = (c.toNat, (Lib.encodeRune c).length) := by
  rw [← Lib.decodeL_drop, hd, decL_enc h]
end Go.Proofs.YtaohniiemhahdaaGreatDoor

/- The walk of token.writeQuote. -/
namespace Go.Proofs.YtaohniiemhahdaaGreatDoor
open Go.RowKit

theorem enc_len0 (c : Int) : 1 ≤ (Lib.encodeRune c).length ∧ (Lib.encodeRune c).length ≤ 4 := by
  have := Lib.encodeRuneZ_length c
  simpa [Lib.encodeRune] using this
theorem two_of {a b c d : Nat} (h : a = c) (k : b = d) : [UInt8.ofNat a, UInt8.ofNat b] = [c.toUInt8, d.toUInt8] := by rw [h, k]
theorem three_of {a b c d e f : Nat} (h : a = d) (k : b = e) (l : c = f) : [UInt8.ofNat a, UInt8.ofNat b, UInt8.ofNat c] = [d.toUInt8, e.toUInt8, f.toUInt8] := by rw [h, k, l]
theorem four_of {a b c d e f g i : Nat} (h : a = e) (k : b = f) (l : c = g) (m : d = i) : [UInt8.ofNat a, UInt8.ofNat b, UInt8.ofNat c, UInt8.ofNat d] = [e.toUInt8, f.toUInt8, g.toUInt8, i.toUInt8] := by rw [h, k, l, m]
theorem enc_eq {c : Int} (h : okB c = true) : (Utf8.encode c).data.toList = Lib.encodeRune c := by
  have hok : 0 ≤ c ∧ c ≤ 1114111 ∧ halfB c = false := by simpa [okB] using h
  obtain ⟨h0, h1, h2⟩ := hok
  have hh : ¬ (55296 ≤ c ∧ c ≤ 57343) := by simpa [halfB] using h2
  have hv : Utf8.valid c = true := by simp only [Utf8.valid, Bool.or_eq_true, Bool.and_eq_true, decide_eq_true_eq]; omega
  unfold Utf8.encode
  rw [if_pos hv]
  by_cases a1 : c ≤ 127
  · simp only [show c.toNat < 128 by omega, if_true]
    rw [Lib.encodeRune, Lib.encodeRuneZ_one h0 a1]
    rfl
  by_cases a2 : c ≤ 2047
  · simp only [show ¬ c.toNat < 128 by omega, show c.toNat < 2048 by omega, if_true, if_false]
    rw [Lib.encodeRune, Lib.encodeRuneZ_two (by omega) a2]
    exact two_of (by omega) (by omega)
  by_cases a3 : c ≤ 65535
  · simp only [show ¬ c.toNat < 128 by omega, show ¬ c.toNat < 2048 by omega, show c.toNat < 65536 by omega, if_true, if_false]
    rw [Lib.encodeRune, Lib.encodeRuneZ_three (show (2048 ≤ c ∧ c < 55296) ∨ (57343 < c ∧ c ≤ 65535) by omega)]
    exact three_of (by omega) (by omega) (by omega)
  · simp only [show ¬ c.toNat < 128 by omega, show ¬ c.toNat < 2048 by omega, show ¬ c.toNat < 65536 by omega, if_false]
    rw [Lib.encodeRune, Lib.encodeRuneZ_four (show 65536 ≤ c by omega) h1]
    exact four_of (by omega) (by omega) (by omega) (by omega)
theorem bytes_ge : ∀ cs : List Int, cs.length ≤ (bytesOf cs).length := by
  intro cs
  induction cs with
  | nil => simp
  | cons c cs ih =>
    have := enc_len0 c
    rw [show bytesOf (c :: cs) = Lib.encodeRune c ++ bytesOf cs by simp [bytesOf], List.length_append, List.length_cons]
    omega
theorem enc_codes {c : Int} (h : okB c = true) : codes (Lib.encodeRune c) = some [c] := by
  have h1 := codes_bytes [c] [] (by simp [h])
  rw [List.append_nil, show bytesOf [c] = Lib.encodeRune c by simp [bytesOf]] at h1
  rw [h1, codes_nil]
  rfl
theorem enc_units {c : Int} (h : okB c = true) : unitsS (Utf8.encode c).data.toList = unitOf c := by
  unfold unitsS
  rw [enc_eq h, enc_codes h]
  simp [unitsOf]
theorem enc_len (c : Int) : 1 ≤ (Lib.encodeRune c).length ∧ (Lib.encodeRune c).length ≤ 4 := by
  have := Lib.encodeRuneZ_length c
  simpa [Lib.encodeRune] using this
theorem unitOf_len (c : Int) : (unitOf c).length ≤ 2 := by unfold unitOf; split <;> simp
theorem printQ_len (c : Int) : (printQ c).length ≤ 12 := by
  unfold printQ
  split
  · simp
  · split
    · simp
    · split
      · simp
      · split
        · rw [text_len]; have := unitOf_len c; omega
        · have := enc_len c; omega
theorem flatQ_len : ∀ cs : List Int, (cs.flatMap printQ).length ≤ 12 * cs.length := by
  intro cs
  induction cs with
  | nil => simp
  | cons c cs ih => rw [List.flatMap_cons, List.length_append, List.length_cons]; have := printQ_len c; omega
theorem isB_rune {B b : Nat} {l : List UInt8} {c : Int} {w : World} {p : Value} (hp : p = .pointer (some ⟨b, 0, none⟩)) (h : Lib.BuilderAtF 96 5 B b p (Lib.byteCells l ++ Lib.runeCells c) w) : IsB B b (l ++ Lib.encodeRune c) w := by
  subst hp
  refine .inr ?_
  rwa [← Lib.byteCells_encodeRune, ← Lib.byteCells_append] at h
theorem writeR (B b : Nat) (l : List UInt8) (c : Int) (h0 : 0 ≤ c) (h1 : c ≤ 1114111) (w : World) (h : IsB B b l w) (hl : l.length ≤ 1000000) (hB : B ≤ w.heap.size) :
    Calls Tryz.prog 115 #[.pointer (some ⟨b, 0, none⟩), .int .i32 c] w fun e w' => e = .returned (.tuple #[.int .i64 (Lib.runeCells c).length, .nilIface]) ∧ IsB B b (l ++ Lib.encodeRune c) w' ∧ Below B w w' ∧ Lib.OthersKept 5 (some b) w w' :=
  (writeRune B b (Lib.byteCells l) c (by omega) (by omega) w h (by rw [Lib.byteCells_length]; omega) hB).mono fun _ _ ⟨he, h1, h2, h3⟩ => ⟨he, isB_rune rfl h1, h2, h3⟩
theorem isB_lt {B b : Nat} {l : List UInt8} {w : World} (h : IsB B b l w) : b < w.heap.size := by
  rcases h with ⟨_, v, hb, _⟩ | ⟨_, v, hb, _⟩ <;> exact (Array.getElem?_eq_some_iff.1 hb).1

theorem enc_sz (c : Int) : (Utf8.encode c).size ≤ 4 := encode_size_le c
/-- How far the range over the text has come. -/
def QTo (s : ByteArray) (cs ds rest : List Int) (pos : Nat) : Prop := cs = ds ++ rest ∧ s.data.toList.drop pos = bytesOf rest
theorem QTo.next {s : ByteArray} {cs ds rest : List Int} {c : Int} {pos : Nat} (h : QTo s cs ds (c :: rest) pos) : QTo s cs (ds ++ [c]) rest (pos + (Lib.encodeRune c).length) := by
  refine ⟨by rw [h.1]; simp, ?_⟩
  rw [← List.drop_drop, h.2, show bytesOf (c :: rest) = Lib.encodeRune c ++ bytesOf rest by simp [bytesOf], List.drop_left]

set_option maxRecDepth 100000 in
set_option maxHeartbeats 4000000 in
theorem writeQuote_any (B b : Nat) (done : List UInt8) (s : ByteArray) (cs : List Int) (w : World) (h : IsB B b done w) (hs : s.size ≤ 3000) (hd : done.length ≤ 800000) (hB : B ≤ w.heap.size) (ht : TabAt w) (hg : 0 < B) (hc : codes s.data.toList = some cs) :
    Calls Tryz.prog 50 #[.pointer (some ⟨b, 0, none⟩), .string s] w fun e w' => e = .returned (.tuple #[]) ∧ IsB B b (done ++ quoteT cs) w' ∧ Below B w w' := by
  obtain ⟨hby, hok⟩ := bytes_codes s.data.toList.length s.data.toList cs (Nat.le_refl _) hc
  have hcl : cs.length ≤ 3000 := by
    have := bytes_ge cs
    rw [hby, len_data] at this; omega
  have HT := Lib.hid ht
  have HOK := Lib.hid hok
  have H1 := Lib.hid (write1 B b done 34 w h (by omega) hB)
  have HBY := Lib.hid hby
  clear h hc hok ht hby
  go_enter Tryz.func50, Tryz.ntmps50
  go_wp2_with fail
  refine H1.out.mono ?_
  rintro e w1 ⟨rfl, hI1, hb1, _⟩
  have HI1 := Lib.hid hI1
  have hs1 := hb1.size
  have HB1 := Lib.hid hb1
  clear hI1 hb1 H1
  go_wp2
  go_loopg [5] cs.length (fun g c5 wx => ∃ (ds rest : List Int) (pos : Nat), rest.length = g ∧ Aside (QTo s cs ds rest pos) ∧ Aside (wx.heap[w1.heap.size]? = some (.stringIter s pos)) ∧ Aside (IsB B b (done ++ 34 :: ds.flatMap printQ) wx) ∧ Below B w wx)
  case atStart => exact ⟨[], cs, 0, rfl, Aside.intro ⟨rfl, by rw [HBY.out]; rfl⟩, Aside.intro (by simp [World.iter_heap]), Aside.intro (by have := HI1.out.alloc (.stringIter s 0); simpa [World.iter] using this), HB1.out.alloc (by omega) _⟩
  case round =>
    obtain ⟨ds, rest, pos, hgk, HQ, HK, HX, hb⟩ := hrel
    have hbs := hb.size
    have HBx := Lib.hid hb
    clear hb
    cases rest with
    | nil =>
      obtain ⟨hcs, hdr⟩ := HQ.out
      have hds : ds = cs := by rw [hcs]; simp
      subst hds
      have hp : ¬ pos < s.size := by
        have := congrArg List.length hdr
        rw [List.length_drop, len_data] at this
        simp [bytesOf] at this
        omega
      have hnx : ∀ ty, (Instr.next (.pointer (some ⟨w1.heap.size, 0, none⟩)) true ty).run Tryz.prog wr = _ := fun ty => Lib.run_next_end_at wr w1.heap.size s pos ty HK.out hp
      have HW := Lib.hid (write1 B b (done ++ 34 :: ds.flatMap printQ) 34 wr HX.out (by have := flatQ_len ds; rw [List.length_append, List.length_cons]; omega) (by omega))
      have HE : Hid ((done ++ 34 :: ds.flatMap printQ) ++ [34] = done ++ quoteT ds) := Lib.hid (by simp [quoteT])
      clear HX HK HQ hcs hdr hp
      go_wp2_with fail
      refine HW.out.mono ?_
      rintro e w2 ⟨rfl, hI2, hb2, _⟩
      have HI2 := Lib.hid hI2
      have HB2 := Lib.hid (HBx.out.trans hb2)
      clear hI2 hb2 HW
      go_wp2_with fail
      go_end0
      exact ⟨rfl, by rw [← HE.out]; exact HI2.out, HB2.out⟩
    | cons c rest =>
      have hQn := HQ.out.next
      have hdr := HQ.out.2
      have hcm : c ∈ cs := by rw [HQ.out.1]; simp
      have hcok : okB c = true := by
        have := HOK.out
        rw [List.all_eq_true] at this
        exact this c hcm
      have hdl : ds.length + rest.length + 1 = cs.length := by rw [HQ.out.1]; simp; omega
      obtain ⟨hc0, hc1, hch⟩ : 0 ≤ c ∧ c ≤ 1114111 ∧ halfB c = false := by simpa [okB] using hcok
      have hp : pos < s.size := by
        have h1 := congrArg List.length hdr
        rw [List.length_drop, len_data, show bytesOf (c :: rest) = Lib.encodeRune c ++ bytesOf rest by simp [bytesOf], List.length_append] at h1
        have := enc_len c
        omega
      have hdec : Utf8.decode s pos = (c.toNat, (Lib.encodeRune c).length) := decode_enc hcok (t := bytesOf rest) (by rw [hdr]; simp [bytesOf])
      have hnx0 : ∀ ty, (Instr.next (.pointer (some ⟨w1.heap.size, 0, none⟩)) true ty).run Tryz.prog wr = _ := fun ty => Lib.run_next_any_at wr w1.heap.size s pos ty HK.out hp
      rw [hdec] at hnx0
      simp only [show ((c.toNat : Nat) : Int) = c by omega] at hnx0
      have hK1 := Lib.iterAt_heap wr w1.heap.size s pos (pos + (Lib.encodeRune c).length) HK.out
      have hI1 : IsB B b (done ++ 34 :: ds.flatMap printQ) (wr.iterAt w1.heap.size s (pos + (Lib.encodeRune c).length)) := Lib.IsBuilderF.iterAt HX.out HK.out _
      have hB1 : Below B w (wr.iterAt w1.heap.size s (pos + (Lib.encodeRune c).length)) := Lib.below_iterAt HBx.out (by omega) _ _
      have hne : w1.heap.size ≠ b := by have := isB_lt HI1.out; omega
      have hlen : (done ++ 34 :: ds.flatMap printQ).length ≤ 900000 := by have := flatQ_len ds; rw [List.length_append, List.length_cons]; omega
      have hsnoc : Hid (∀ x, printQ c = x → (done ++ 34 :: ds.flatMap printQ) ++ x = done ++ 34 :: (ds ++ [c]).flatMap printQ) := Lib.hid (fun x hx => by rw [← hx]; simp)
      generalize wr.iterAt w1.heap.size s (pos + (Lib.encodeRune c).length) = W1 at *
      have hs2 := hB1.size
      have HKn := Lib.hid hK1
      have HBn := Lib.hid hB1
      have HQn := Lib.hid hQn
      have HIn := Lib.hid hI1
      have HN := Lib.hid hcok
      have HTn := Lib.hid (HT.out.below hB1 hg)
      have hgk' : rest.length = gk - 1 := by simp at hgk; omega
      have hgk1 : gk - 1 < gk := by simp at hgk; omega
      generalize done ++ 34 :: ds.flatMap printQ = pre0 at *
      clear HX HK HQ HBx hdr hcm hK1 hB1 hQn hI1 hdec hcok hch hp hgk
      by_cases c34 : c = 34
      · subst c34
        have hnx := hnx0
        have HW := Lib.hid (write1 B b pre0 92 W1 HIn.out (by omega) (by omega))
        go_wp2_with fail
        refine HW.out.mono ?_
        rintro e w2 ⟨rfl, hI2, hb2, ho2⟩
        have hs3 := hb2.size
        have HI2 := Lib.hid hI2
        have HB2 := Lib.hid (HBn.out.trans hb2)
        have HK2 := Lib.hid (ho2.iter HKn.out hne)
        clear hI2 hb2 ho2 HW
        have HW := Lib.hid (writeR B b (pre0 ++ [92]) 34 (by omega) (by omega) w2 HI2.out (by rw [List.length_append]; simp; omega) (by omega))
        go_wp2_with fail
        refine HW.out.mono ?_
        rintro e w3 ⟨rfl, hI3, hb3, ho3⟩
        have HIf0 := Lib.hid hI3
        have HIf : Hid (IsB B b (pre0 ++ [92, 34]) w3) := Lib.hid (by have := HIf0.out; rw [show Lib.encodeRune 34 = [34] by decide +kernel, List.append_assoc] at this; exact this)
        have HBf := Lib.hid (HB2.out.trans hb3)
        have HKf := Lib.hid (ho3.iter HK2.out hne)
        clear hI3 hb3 ho3 HW
        go_wp2_with fail
        go_roundg (gk - 1)
        case measure => omega
        case rel => exact ⟨ds ++ [34], rest, _, hgk', Aside.intro HQn.out, Aside.intro HKf.out, Aside.intro (by rw [← hsnoc.out _ (by unfold printQ; rfl)]; exact HIf.out), HBf.out⟩
      by_cases c92 : c = 92
      · subst c92
        have hnx := hnx0
        have HW := Lib.hid (write1 B b pre0 92 W1 HIn.out (by omega) (by omega))
        go_wp2_with fail
        refine HW.out.mono ?_
        rintro e w2 ⟨rfl, hI2, hb2, ho2⟩
        have hs3 := hb2.size
        have HI2 := Lib.hid hI2
        have HB2 := Lib.hid (HBn.out.trans hb2)
        have HK2 := Lib.hid (ho2.iter HKn.out hne)
        clear hI2 hb2 ho2 HW
        have HW := Lib.hid (writeR B b (pre0 ++ [92]) 92 (by omega) (by omega) w2 HI2.out (by rw [List.length_append]; simp; omega) (by omega))
        go_wp2_with fail
        refine HW.out.mono ?_
        rintro e w3 ⟨rfl, hI3, hb3, ho3⟩
        have HIf0 := Lib.hid hI3
        have HIf : Hid (IsB B b (pre0 ++ [92, 92]) w3) := Lib.hid (by have := HIf0.out; rw [show Lib.encodeRune 92 = [92] by decide +kernel, List.append_assoc] at this; exact this)
        have HBf := Lib.hid (HB2.out.trans hb3)
        have HKf := Lib.hid (ho3.iter HK2.out hne)
        clear hI3 hb3 ho3 HW
        go_wp2_with fail
        go_roundg (gk - 1)
        case measure => omega
        case rel => exact ⟨ds ++ [92], rest, _, hgk', Aside.intro HQn.out, Aside.intro HKf.out, Aside.intro (by rw [← hsnoc.out _ (by unfold printQ; rfl)]; exact HIf.out), HBf.out⟩
      have e34 : (c == 34) = false := by simpa using c34
      have e92 : (c == 92) = false := by simpa using c92
      by_cases c10 : c = 10
      · subst c10
        have hnx := hnx0
        have HW := Lib.hid (writeS B b pre0 [92, 110] W1 HIn.out (by omega) (by decide) (by omega))
        go_wp2_with fail
        refine HW.out.mono ?_
        rintro e w2 ⟨rfl, hI2, hb2, ho2⟩
        have HIf := Lib.hid hI2
        have HBf := Lib.hid (HBn.out.trans hb2)
        have HKf := Lib.hid (ho2.iter HKn.out hne)
        clear hI2 hb2 ho2 HW
        go_wp2_with fail
        go_roundg (gk - 1)
        case measure => omega
        case rel => exact ⟨ds ++ [10], rest, _, hgk', Aside.intro HQn.out, Aside.intro HKf.out, Aside.intro (by rw [← hsnoc.out _ (by unfold printQ; rfl)]; exact HIf.out), HBf.out⟩
      have e10 : (c == 10) = false := by simpa using c10
      by_cases c32 : c < 32
      · have hnx := hnx0
        have HW := Lib.hid (writeUnits_any B b pre0 (Utf8.encode c) W1 HIn.out (by have := enc_sz c; omega) (by omega) (by omega) HTn.out (by rw [enc_units HN.out]; have := unitOf_len c; omega) (by rw [enc_units HN.out]; exact unit_range HN.out))
        rw [enc_units HN.out] at HW
        go_wp2_with fail
        refine HW.out.mono ?_
        rintro e w2 ⟨rfl, hI2, hb2, ho2⟩
        have HIf := Lib.hid hI2
        have HBf := Lib.hid (HBn.out.trans hb2)
        have HKf := Lib.hid (ho2.iter HKn.out hne)
        clear hI2 hb2 ho2 HW
        go_wp2_with fail
        go_roundg (gk - 1)
        case measure => omega
        case rel => exact ⟨ds ++ [c], rest, _, hgk', Aside.intro HQn.out, Aside.intro HKf.out, Aside.intro (by rw [← hsnoc.out _ (by unfold printQ; rw [if_neg c34, if_neg c92, if_neg c10, if_pos (.inl c32)])]; exact HIf.out), HBf.out⟩
      by_cases cb : 65535 < c
      · have hnx := hnx0
        have HW := Lib.hid (writeUnits_any B b pre0 (Utf8.encode c) W1 HIn.out (by have := enc_sz c; omega) (by omega) (by omega) HTn.out (by rw [enc_units HN.out]; have := unitOf_len c; omega) (by rw [enc_units HN.out]; exact unit_range HN.out))
        rw [enc_units HN.out] at HW
        go_wp2_with fail
        refine HW.out.mono ?_
        rintro e w2 ⟨rfl, hI2, hb2, ho2⟩
        have HIf := Lib.hid hI2
        have HBf := Lib.hid (HBn.out.trans hb2)
        have HKf := Lib.hid (ho2.iter HKn.out hne)
        clear hI2 hb2 ho2 HW
        go_wp2_with fail
        go_roundg (gk - 1)
        case measure => omega
        case rel => exact ⟨ds ++ [c], rest, _, hgk', Aside.intro HQn.out, Aside.intro HKf.out, Aside.intro (by rw [← hsnoc.out _ (by unfold printQ; rw [if_neg c34, if_neg c92, if_neg c10, if_pos (.inr cb)])]; exact HIf.out), HBf.out⟩
      · have hnx := hnx0
        have HW := Lib.hid (writeR B b pre0 c (by omega) (by omega) W1 HIn.out (by omega) (by omega))
        go_wp2_with fail
        refine HW.out.mono ?_
        rintro e w2 ⟨rfl, hI2, hb2, ho2⟩
        have HIf := Lib.hid hI2
        have HBf := Lib.hid (HBn.out.trans hb2)
        have HKf := Lib.hid (ho2.iter HKn.out hne)
        clear hI2 hb2 ho2 HW
        go_wp2_with fail
        go_roundg (gk - 1)
        case measure => omega
        case rel => exact ⟨ds ++ [c], rest, _, hgk', Aside.intro HQn.out, Aside.intro HKf.out, Aside.intro (by rw [← hsnoc.out _ (by unfold printQ; rw [if_neg c34, if_neg c92, if_neg c10, if_neg (by omega)])]; exact HIf.out), HBf.out⟩
end Go.Proofs.YtaohniiemhahdaaGreatDoor

/- The walk of token.Print. -/
namespace Go.Proofs.YtaohniiemhahdaaGreatDoor
open Go.RowKit

theorem bareT_len (ts : List (Int × ByteArray)) : (bareT ts).length = ts.length := by simp [bareT]
theorem codesT_len (x : List UInt8) : (codesT x).length ≤ x.length := by
  unfold codesT
  cases hc : codes x with
  | none => simp
  | some cs =>
    have h := (bytes_codes x.length x cs (Nat.le_refl _) hc).1
    have := bytes_ge cs
    rw [h] at this
    exact this
theorem printT_len (z : Int) (x : ByteArray) : (printT (z, x.data.toList)).length ≤ 12 * (x.size + 1) := by
  have hl := len_data x
  unfold printT
  split
  · unfold quoteT
    have h1 := flatQ_len (codesT x.data.toList)
    have h2 := codesT_len x.data.toList
    simp only [List.length_cons, List.length_append, List.length_nil]
    omega
  · show x.data.toList.length ≤ _
    omega
theorem printL_len : ∀ ts : List (Int × ByteArray), (printL (bareT ts)).length ≤ 13 * sumT ts := by
  intro ts
  induction ts with
  | nil => simp [bareT, printL]
  | cons t ts ih =>
    obtain ⟨z, x⟩ := t
    have h := printT_len z x
    show (printT (z, x.data.toList) ++ _).length ≤ 13 * (1 + x.size + sumT ts)
    rw [List.length_append]
    have : (if List.map (fun t : Int × ByteArray => (t.1, t.2.data.toList)) ts = [] then [] else 32 :: printL (bareT ts)).length ≤ 1 + (printL (bareT ts)).length := by
      split
      · simp
      · simp; omega
    have e : ∀ l : List UInt8, l.length ≤ 1 + (printL (bareT ts)).length → (printT (z, x.data.toList)).length + l.length ≤ 13 * (1 + x.size + sumT ts) := fun l hl => by omega
    exact e _ this

/-- What Print answers. -/
def printS (l : List (Int × List UInt8)) : List UInt8 := if l.all rightB then printL l else []
theorem printS_yes {l : List (Int × List UInt8)} (h : l.all rightB = true) : printS l = printL l := if_pos h
theorem printS_no {l : List (Int × List UInt8)} (h : l.all rightB = false) : printS l = [] := if_neg (by rw [h]; decide)
theorem bare_step {ts : List (Int × ByteArray)} {k : Nat} {z : Int} {x : ByteArray} (h : ts[k]? = some (z, x)) : bareT (ts.take (k + 1)) = bareT (ts.take k) ++ [(z, x.data.toList)] := by
  rw [List.take_add_one, h]
  simp [bareT]
theorem all_step {ts : List (Int × ByteArray)} {k : Nat} {z : Int} {x : ByteArray} (h : ts[k]? = some (z, x)) (ha : (bareT (ts.take k)).all rightB = true) : (bareT (ts.take (k + 1))).all rightB = rightB (z, x.data.toList) := by
  rw [bare_step h, List.all_append, ha]
  simp
theorem all_bad {ts : List (Int × ByteArray)} {k : Nat} {z : Int} {x : ByteArray} (h : ts[k]? = some (z, x)) (hr : rightB (z, x.data.toList) = false) : (bareT ts).all rightB = false := by
  cases ha : (bareT ts).all rightB
  · rfl
  · rw [List.all_eq_true] at ha
    have := ha (z, x.data.toList) (by unfold bareT; exact List.mem_map.2 ⟨_, List.mem_of_getElem? h, rfl⟩)
    rw [hr] at this
    cases this
theorem print_first {ts : List (Int × ByteArray)} {z : Int} {x : ByteArray} (h : ts[0]? = some (z, x)) : printL (bareT (ts.take (0 + 1))) = printL (bareT (ts.take 0)) ++ printT (z, x.data.toList) := by
  rw [bare_step h]
  simp [bareT, printL]
theorem print_next {ts : List (Int × ByteArray)} {k : Nat} {z : Int} {x : ByteArray} (h : ts[k]? = some (z, x)) (h0 : 0 < k) : printL (bareT (ts.take (k + 1))) = (printL (bareT (ts.take k)) ++ [32]) ++ printT (z, x.data.toList) := by
  rw [bare_step h, print_snoc _ _ (by
    intro e
    have := congrArg List.length e
    have hk := (List.getElem?_eq_some_iff.1 h).1
    rw [bareT_len, List.length_take, List.length_nil] at this
    omega)]
  simp
theorem box_at {w w2 : World} {a b : Value} {t : TypeId} (hb : Below (w.alloc (.cells #[a, b] t)).heap.size (w.alloc (.cells #[a, b] t)) w2) : w2.heap[w.heap.size]? = some (.cells #[a, b] t (0, 0)) :=
  (hb.block w.heap.size (by simp)).trans (heap_alloc_last _ _)
theorem box_cells {w : World} {g : Nat} {a b : Value} {t : TypeId} (h : w.heap[g]? = some (.cells #[a, b] t (0, 0))) : w.cell? ⟨g, 0, none⟩ = some a ∧ w.cell? ⟨g, 1, none⟩ = some b := ⟨by simp [World.cell?, h], by simp [World.cell?, h]⟩
theorem quote_codes5 {x : List UInt8} (h : rightB (5, x) = true) : codes x = some (codesT x) ∧ printT (5, x) = quoteT (codesT x) := by
  rw [right5, goodB_iff] at h
  refine ⟨?_, rfl⟩
  unfold codesT
  cases hc : codes x with
  | none => rw [hc] at h; cases h
  | some cs => rfl
theorem plain_text {z : Int} {x : List UInt8} (h : z ≠ 5) : printT (z, x) = x := by
  unfold printT
  rw [if_neg h]

set_option maxRecDepth 100000 in
set_option maxHeartbeats 4000000 in
theorem print_gen (A : Option Addr) (n c : Nat) (ts : List (Int × ByteArray)) (w : World) (h : TsAt w w.heap.size A n ts) (hsum : sumT ts ≤ 60000) (hxs : ∀ t ∈ ts, t.2.size ≤ 3000) (h3 : Laid3 w) :
    Calls Tryz.prog 21 #[.slice A n c] w fun e w' => e = .returned (.tuple #[.string ⟨(printS (bareT ts)).toArray⟩, .bool ((bareT ts).all rightB)]) ∧ Below w.heap.size w w' := by
  have HL := Lib.hid h.1
  have H := Lib.hid h
  have H3 := Lib.hid h3
  have hn : n ≤ 60000 := by have := sumT_len ts; have := h.1; omega
  have HXS := Lib.hid hxs
  clear h h3 hxs
  go_enter Tryz.func21, Tryz.ntmps21
  go_wp2
  go_loopg [9] n (fun g i wx => ∃ k : Nat, k + g = n ∧ i = .int .i64 k ∧ Aside ((bareT (ts.take k)).all rightB = true) ∧ Aside (IsB w.heap.size w.heap.size (printL (bareT (ts.take k))) wx) ∧ Below w.heap.size w wx)
  case atStart => exact ⟨0, by omega, rfl, Aside.intro rfl, Aside.intro (Lib.IsBuilderF.of (Lib.fresh_isBuilder _ _ _)), below_new⟩
  case round =>
    obtain ⟨k, hk, rfl, HR, HX, hb⟩ := hrel
    have hbs := hb.size
    have HBx := Lib.hid hb
    have hlb := isB_lt HX.out
    by_cases hlt : k < n
    · have hlt' : (k : Int) < (n : Int) := by omega
      have hk0 : (0 : Int) ≤ (k : Int) := by omega
      obtain ⟨⟨z, x⟩, ht⟩ : ∃ t, ts[k]? = some t := ⟨_, List.getElem?_eq_getElem (by rw [HL.out]; omega)⟩
      obtain ⟨bb, o, rfl, hbb, c0, c1⟩ := (H.out.below hb).2 k _ ht
      simp only at c0 c1
      have hx : x.size ≤ 3000 := HXS.out (z, x) (List.mem_of_getElem? ht)
      have HT := Lib.hid ht
      have HRt := Lib.hid (fun w h3 => right_any z x w (by omega) h3)
      clear ht hb
      have HRc := Lib.hid (HRt.out (wr.alloc (.cells #[.int .i64 z, .string x] 91)) ((H3.out.below HBx.out).alloc _))
      have hcl : (printL (bareT (ts.take k))).length ≤ 780000 := by
        have h1 := printL_len (ts.take k)
        have h2 := sumT_take ts k
        omega
      obtain ⟨rb, hrb⟩ : ∃ rb, rightB (z, x.data.toList) = rb := ⟨_, rfl⟩
      rw [hrb] at HRc
      have HRT := Lib.hid hrb
      clear hrb HRt
      go_wp2_with fail
      refine HRc.out.mono ?_
      rintro e w2 ⟨rfl, hb2⟩
      have HK2 := Lib.hid (box_at hb2)
      have HI2 : Hid (IsB w.heap.size w.heap.size (printL (bareT (ts.take k))) w2) := Lib.hid (builder_below (Lib.IsBuilderF.alloc HX.out _) hb2)
      have HB2 : Hid (Below w.heap.size w w2) := Lib.hid (HBx.out.trans ((below_new.mono hbs).trans (hb2.mono (by simp; omega))))
      clear hb2 HX HRc
      cases rb
      · have hf := Lib.hid (all_bad HT.out HRT.out)
        go_wp2_with fail
        go_ret2
        exact ⟨by rw [hf.out, printS_no hf.out]; rfl, HB2.out⟩
      · obtain ⟨k0, k1⟩ := box_cells HK2.out
        have hne : wr.heap.size ≠ w.heap.size := by omega
        by_cases hk1 : 0 < k
        · have hk1' : (k : Int) > 0 := by omega
          have HW := Lib.hid (write1 w.heap.size w.heap.size (printL (bareT (ts.take k))) 32 w2 HI2.out (by omega) HB2.out.size)
          clear k0 k1
          go_wp2_with fail
          refine HW.out.mono ?_
          rintro e w3 ⟨rfl, hI3, hb3, ho3⟩
          have HK3 : Hid (w3.heap[wr.heap.size]? = some (.cells #[.int .i64 z, .string x] 91 (0, 0))) := Lib.hid (ho3 _ _ HK2.out (fun e => hne (Option.some.inj e)) (by
            intro c' fz' e1
            injection e1 with _ h2 _
            exact absurd h2 (by decide)))
          obtain ⟨k0, k1⟩ := box_cells HK3.out
          have HI3 := Lib.hid hI3
          have HB3 := Lib.hid (HB2.out.trans hb3)
          clear hI3 hb3 ho3 HW
          by_cases hz : z = 5
          · subst hz
            have HQ := Lib.hid (quote_codes5 HRT.out)
            have HW := Lib.hid (writeQuote_any w.heap.size w.heap.size (printL (bareT (ts.take k)) ++ [32]) x (codesT x.data.toList) w3 HI3.out (by omega) (by rw [List.length_append]; simp; omega) HB3.out.size (H3.out.below HB3.out).1 H3.out.1.lt HQ.out.1)
            go_wp2_with fail
            refine HW.out.mono ?_
            rintro e w4 ⟨rfl, hI4, hb4⟩
            have HI4 := Lib.hid hI4
            have HB4 := Lib.hid (HB3.out.trans hb4)
            clear hI4 hb4 HW
            go_wp2_with fail
            go_roundg (gk - 1)
            case measure => omega
            case rel => exact ⟨k + 1, by omega, by go_num, Aside.intro (by rw [all_step HT.out HR.out]; exact HRT.out), Aside.intro (by rw [print_next HT.out hk1, HQ.out.2]; exact HI4.out), HB4.out⟩
          · have e5 : (z == 5) = false := by simpa using hz
            have HZ := Lib.hid (plain_text (x := x.data.toList) hz)
            have HW := Lib.hid (writeS w.heap.size w.heap.size (printL (bareT (ts.take k)) ++ [32]) x.data.toList w3 HI3.out (by rw [List.length_append]; simp; omega) (by rw [len_data]; omega) HB3.out.size)
            rw [mk_of (rfl : x.data.toList = x.data.toList)] at HW
            go_wp2_with fail
            refine HW.out.mono ?_
            rintro e w4 ⟨rfl, hI4, hb4, _⟩
            have HI4 := Lib.hid hI4
            have HB4 := Lib.hid (HB3.out.trans hb4)
            clear hI4 hb4 HW
            go_wp2_with fail
            go_roundg (gk - 1)
            case measure => omega
            case rel => exact ⟨k + 1, by omega, by go_num, Aside.intro (by rw [all_step HT.out HR.out]; exact HRT.out), Aside.intro (by rw [print_next HT.out hk1, HZ.out]; exact HI4.out), HB4.out⟩
        · obtain rfl : k = 0 := by omega
          by_cases hz : z = 5
          · subst hz
            have HQ := Lib.hid (quote_codes5 HRT.out)
            have HW := Lib.hid (writeQuote_any w.heap.size w.heap.size (printL (bareT (ts.take 0))) x (codesT x.data.toList) w2 HI2.out (by omega) (by omega) HB2.out.size (H3.out.below HB2.out).1 H3.out.1.lt HQ.out.1)
            go_wp2_with fail
            refine HW.out.mono ?_
            rintro e w4 ⟨rfl, hI4, hb4⟩
            have HI4 := Lib.hid hI4
            have HB4 := Lib.hid (HB2.out.trans hb4)
            clear hI4 hb4 HW
            go_wp2_with fail
            go_roundg (gk - 1)
            case measure => omega
            case rel => exact ⟨0 + 1, by omega, by go_num, Aside.intro (by rw [all_step HT.out HR.out]; exact HRT.out), Aside.intro (by rw [print_first HT.out, HQ.out.2]; exact HI4.out), HB4.out⟩
          · have e5 : (z == 5) = false := by simpa using hz
            have HZ := Lib.hid (plain_text (x := x.data.toList) hz)
            have HW := Lib.hid (writeS w.heap.size w.heap.size (printL (bareT (ts.take 0))) x.data.toList w2 HI2.out (by omega) (by rw [len_data]; omega) HB2.out.size)
            rw [mk_of (rfl : x.data.toList = x.data.toList)] at HW
            go_wp2_with fail
            refine HW.out.mono ?_
            rintro e w4 ⟨rfl, hI4, hb4, _⟩
            have HI4 := Lib.hid hI4
            have HB4 := Lib.hid (HB2.out.trans hb4)
            clear hI4 hb4 HW
            go_wp2_with fail
            go_roundg (gk - 1)
            case measure => omega
            case rel => exact ⟨0 + 1, by omega, by go_num, Aside.intro (by rw [all_step HT.out HR.out]; exact HRT.out), Aside.intro (by rw [print_first HT.out, HZ.out]; exact HI4.out), HB4.out⟩
    · obtain rfl : k = n := by omega
      have hall : Hid ((bareT ts).all rightB = true) := Lib.hid (by
        have h := HR.out
        rwa [List.take_of_length_le (by rw [HL.out]; omega)] at h)
      have HI : Hid (IsB w.heap.size w.heap.size (printL (bareT ts)) wr) := Lib.hid (by
        have h := HX.out
        rwa [List.take_of_length_le (by rw [HL.out]; omega)] at h)
      have HC := Lib.hid (builderText w.heap.size w.heap.size (printL (bareT ts)) wr HI.out hbs)
      clear HX HR hb
      go_wp2_with fail
      refine HC.out.mono ?_
      rintro e w2 ⟨rfl, _, hb2, _⟩
      have HB2 := Lib.hid (HBx.out.trans hb2)
      clear hb2
      go_wp2_with fail
      go_ret2
      exact ⟨by rw [hall.out, printS_yes hall.out]; rfl, HB2.out⟩

end Go.Proofs.YtaohniiemhahdaaGreatDoor
