/- The walk of letters.Join: what it answers is the plain function 'joinL' of its units; below the call's own blocks nothing has turned. -/
import Derived.Test.YtcdcfhplkimecaaGreatDoorPreds
import Derived.Test.YtcdcfhplkimecaaGreatDoorUnits
import Derived.Test.YtcdcfhplkimecaaGreatDoorShelf
import Derived.Below
import Derived.Lib.Hide
namespace Go.Proofs.YtcdcfhplkimecaaGreatDoor
open Go.RowKit

/-- A slice of ints that lies below block B and reads as zs. -/
def IntsAt (w : World) (B : Nat) (A : Option Addr) (n : Nat) (zs : List Int) : Prop :=
  zs.length = n ∧ ∀ (j : Nat) z, zs[j]? = some z → ∃ b o, A = some ⟨b, o, none⟩ ∧ b < B ∧ w.cell? ⟨b, o + j, none⟩ = some (.int .i64 z)
theorem IntsAt.below {w w' : World} {B : Nat} {A : Option Addr} {n : Nat} {zs : List Int} (h : IntsAt w B A n zs) (hb : Below B w w') : IntsAt w' B A n zs :=
  ⟨h.1, fun j z hz => by
    obtain ⟨b, o, e, hlt, hc⟩ := h.2 j z hz
    exact ⟨b, o, e, hlt, (hb.cell (p := ⟨b, o + j, none⟩) hlt).trans hc⟩⟩
theorem IntsAt.more {w : World} {B B' : Nat} {A : Option Addr} {n : Nat} {zs : List Int} (h : IntsAt w B A n zs) (hB : B ≤ B') : IntsAt w B' A n zs :=
  ⟨h.1, fun j z hz => by
    obtain ⟨b, o, e, hlt, hc⟩ := h.2 j z hz
    exact ⟨b, o, e, by omega, hc⟩⟩

/-- What Join answers: the text and true, or the empty text and false. -/
def joinS (zs : List Int) : ByteArray := match joinL zs with | some l => ⟨l.toArray⟩ | none => ⟨#[]⟩
def joinOk (zs : List Int) : Bool := (joinL zs).isSome
theorem join_ret {zs : List Int} {s : ByteArray} {b : Bool} {B : Nat} {w w' : World} (h1 : joinS zs = s) (h2 : joinOk zs = b) (hw : Below B w w') :
    Ending.returned (.tuple #[.string s, .bool b]) = .returned (.tuple #[.string (joinS zs), .bool (joinOk zs)]) ∧ Below B w w' := by subst h1 h2; exact ⟨rfl, hw⟩
/-- The rest's code points, and what has been written, are all. -/
def JoinTo (zs : List Int) (k : Nat) (done : List UInt8) : Prop := (pairUp (zs.drop k)).map (fun cs => done ++ bytesOf cs) = joinL zs
theorem drop_cons {zs : List Int} {k : Nat} {z : Int} (h : zs[k]? = some z) : zs.drop k = z :: zs.drop (k + 1) := by
  obtain ⟨hlt, rfl⟩ := List.getElem?_eq_some_iff.1 h
  exact List.drop_eq_getElem_cons hlt
theorem JoinTo.one {zs : List Int} {k : Nat} {done : List UInt8} {z : Int} (h : JoinTo zs k done) (hz : zs[k]? = some z) (h0 : ¬ z < 0) (h1 : ¬ 65536 ≤ z) (h2 : halfB z = false) : JoinTo zs (k + 1) (done ++ Lib.encodeRune z) := by
  unfold JoinTo at *
  rw [drop_cons hz, pairUp_one h0 h1 h2, Option.map_map] at h
  rw [← h]
  congr 1
  funext cs
  simp [bytesOf, List.append_assoc]
theorem JoinTo.two {zs : List Int} {k : Nat} {done : List UInt8} {z y : Int} (h : JoinTo zs k done) (hz : zs[k]? = some z) (hy : zs[k + 1]? = some y) (h0 : ¬ z < 0) (h1 : ¬ 65536 ≤ z) (h2 : halfB z = true) (h3 : pairB z y = true) :
    JoinTo zs (k + 2) (done ++ Lib.encodeRune (65536 + 1024 * (z - 55296) + y - 56320)) := by
  unfold JoinTo at *
  rw [drop_cons hz, drop_cons hy, pairUp_two h0 h1 h2 h3, Option.map_map] at h
  rw [← h]
  congr 1
  funext cs
  simp [bytesOf, List.append_assoc]
theorem JoinTo.no {zs : List Int} {k : Nat} {done : List UInt8} (h : JoinTo zs k done) (hn : pairUp (zs.drop k) = none) : joinS zs = ⟨#[]⟩ ∧ joinOk zs = false := by
  unfold JoinTo at h
  rw [hn] at h
  simp [joinS, joinOk, ← h]
theorem JoinTo.done {zs : List Int} {k : Nat} {done : List UInt8} (h : JoinTo zs k done) (hk : zs.length ≤ k) : joinS zs = ⟨done.toArray⟩ ∧ joinOk zs = true := by
  unfold JoinTo at h
  rw [List.drop_eq_nil_of_le hk] at h
  simp [pairUp, bytesOf] at h
  simp [joinS, joinOk, ← h]
theorem encode_len (c : Int) : (Lib.encodeRune c).length ≤ 4 := by
  have := (Lib.encodeRuneZ_length c).2
  simpa [Lib.encodeRune] using this

set_option maxRecDepth 100000 in
set_option maxHeartbeats 2000000 in
theorem join_any (A : Option Addr) (n cap : Nat) (zs : List Int) (w : World) (hn : n ≤ 9000) (hz : IntsAt w w.heap.size A n zs) :
    Calls Tryz.prog 84 #[.slice A n cap] w fun e w' => e = .returned (.tuple #[.string (joinS zs), .bool (joinOk zs)]) ∧ Below w.heap.size w w' := by
  have HZ := Lib.hid hz
  clear hz
  go_enter Tryz.func84, Tryz.ntmps84
  go_wp2
  go_loopg [5] n (fun g i wx => ∃ k : Nat, k + g = n ∧ i = .int .i64 k ∧ Below w.heap.size w wx ∧ Aside (∃ done : List UInt8, done.length ≤ 4 * k ∧ Lib.IsBuilderF 46 5 w.heap.size w.heap.size (Lib.byteCells done) wx ∧ JoinTo zs k done))
  case atStart => exact ⟨0, by omega, rfl, (Below.refl _ _).alloc (Nat.le_refl _) _, Aside.intro ⟨[], by simp, Lib.IsBuilderF.of (Lib.fresh_isBuilder _ _ _), by unfold JoinTo joinL; rw [List.drop_zero]; rfl⟩⟩
  case round =>
    obtain ⟨k, hk, rfl, hb, H⟩ := hrel
    cases gk with
    | zero =>
      obtain rfl : k = n := by omega
      obtain ⟨done, hd, hB, hJ⟩ := H.out
      have hfin := Lib.hid (hJ.done (by rw [HZ.out.1]; omega))
      have HC := Lib.hid (builderText w.heap.size w.heap.size done wr hB hb.size)
      clear H hB hJ
      go_wp2_with fail
      refine HC.out.mono ?_
      rintro e w1 ⟨rfl, _, hb1, _⟩
      go_wp2_with fail
      go_ret2
      exact join_ret hfin.out.1 hfin.out.2 (hb.trans hb1)
    | succ g =>
      have hkn : k < n := by omega
      have hkn' : (k : Int) < (n : Int) := by omega
      obtain ⟨z, hzk⟩ : ∃ z, zs[k]? = some z := ⟨_, List.getElem?_eq_getElem (by rw [HZ.out.1]; omega)⟩
      obtain ⟨b, o, rfl, hblt, hcell⟩ := (HZ.out.below hb).2 k z hzk
      have HK := Lib.hid hzk
      clear hzk
      by_cases h0 : z < 0
      · obtain ⟨done, hd, hB, hJ⟩ := H.out
        have hfin := Lib.hid (hJ.no (by rw [drop_cons HK.out]; exact pairUp_range (.inl h0)))
        clear H hB hJ hd
        go_wp2_with fail
        go_ret2
        exact join_ret hfin.out.1 hfin.out.2 hb
      by_cases h1 : 65536 ≤ z
      · obtain ⟨done, hd, hB, hJ⟩ := H.out
        have hfin := Lib.hid (hJ.no (by rw [drop_cons HK.out]; exact pairUp_range (.inr h1)))
        clear H hB hJ hd
        go_wp2_with fail
        go_ret2
        exact join_ret hfin.out.1 hfin.out.2 hb
      cases hh : halfB z
      · obtain ⟨done, hd, hB, hJ⟩ := H.out
        have hJ' := Lib.hid (hJ.one HK.out h0 h1 hh)
        have HW := Lib.hid (writeRune w.heap.size w.heap.size (Lib.byteCells done) z (by omega) (by omega) wr hB (by rw [Lib.byteCells_length]; omega) hb.size)
        have Hh := Lib.hid (half_any z wr)
        have hh' := Lib.hid hh
        clear H hB hJ hh
        go_wp2_with fail
        refine Hh.out.mono ?_
        rintro e w1 ⟨rfl, rfl⟩
        rw [hh'.out]
        go_wp2_with fail
        refine HW.out.mono ?_
        rintro e w2 ⟨rfl, hB2, hb2, _⟩
        rw [← Lib.byteCells_encodeRune, ← Lib.byteCells_append] at hB2
        go_wp2_with fail
        go_roundg g
        case measure => omega
        case rel => exact ⟨k + 1, by omega, by go_num, hb.trans hb2, Aside.intro ⟨_, by rw [List.length_append]; have := encode_len z; omega, .inr hB2, hJ'.out⟩⟩
      · have Hh := Lib.hid (half_any z wr)
        have hh' := Lib.hid hh
        clear hh
        by_cases hlast : k + 1 = n
        · obtain ⟨done, hd, hB, hJ⟩ := H.out
          have hfin := Lib.hid (hJ.no (by rw [drop_cons HK.out, List.drop_eq_nil_of_le (by rw [HZ.out.1]; omega)]; exact pairUp_end hh'.out))
          have e1 : ((k : Int) + 1 == (n : Int)) = true := by simp; omega
          clear H hB hJ hd hlast
          go_wp2_with fail
          refine Hh.out.mono ?_
          rintro e w1 ⟨rfl, rfl⟩
          rw [hh'.out]
          go_wp2_with fail
          go_ret2
          exact join_ret hfin.out.1 hfin.out.2 hb
        · have e1 : ((k : Int) + 1 == (n : Int)) = false := by simp; omega
          have hk1 : k + 1 < n := by omega
          have hk1' : (k : Int) + 1 < (n : Int) := by omega
          clear hlast
          obtain ⟨y, hyk⟩ : ∃ y, zs[k + 1]? = some y := ⟨_, List.getElem?_eq_getElem (by rw [HZ.out.1]; omega)⟩
          obtain ⟨b', o', e', hblt', hcell'⟩ := (HZ.out.below hb).2 (k + 1) y hyk
          obtain ⟨rfl, rfl⟩ : b = b' ∧ o = o' := by injection e' with e'; injection e' with e1 e2; exact ⟨e1, e2⟩
          clear e'
          have HK2 := Lib.hid hyk
          clear hyk
          have Hp := Lib.hid (pair_any z y wr)
          cases hp : pairB z y
          · obtain ⟨done, hd, hB, hJ⟩ := H.out
            have hfin := Lib.hid (hJ.no (by rw [drop_cons HK.out, drop_cons HK2.out]; exact pairUp_odd hh'.out hp))
            have hp' := Lib.hid hp
            clear H hB hJ hd hp
            go_wp2_with fail
            refine Hh.out.mono ?_
            rintro e w1 ⟨rfl, rfl⟩
            rw [hh'.out]
            go_wp2_with fail
            refine Hp.out.mono ?_
            rintro e w1 ⟨rfl, rfl⟩
            rw [hp'.out]
            go_wp2_with fail
            go_ret2
            exact join_ret hfin.out.1 hfin.out.2 hb
          · obtain ⟨done, hd, hB, hJ⟩ := H.out
            have hp' := Lib.hid hp
            have hpp : 55296 ≤ z ∧ z < 56320 ∧ 56320 ≤ y ∧ y ≤ 57343 := by simpa [pairB] using hp
            obtain ⟨p1, p2, p3, p4⟩ := hpp
            have hJ' := Lib.hid (hJ.two HK.out HK2.out h0 h1 hh'.out hp)
            have HW := Lib.hid (writeRune w.heap.size w.heap.size (Lib.byteCells done) (65536 + 1024 * (z - 55296) + y - 56320) (by omega) (by omega) wr hB (by rw [Lib.byteCells_length]; omega) hb.size)
            clear H hB hJ hp
            go_wp2_with fail
            refine Hh.out.mono ?_
            rintro e w1 ⟨rfl, rfl⟩
            rw [hh'.out]
            go_wp2_with fail
            refine Hp.out.mono ?_
            rintro e w1 ⟨rfl, rfl⟩
            rw [hp'.out]
            go_wp2_with fail
            refine HW.out.mono ?_
            rintro e w2 ⟨rfl, hB2, hb2, _⟩
            rw [← Lib.byteCells_encodeRune, ← Lib.byteCells_append] at hB2
            go_wp2_with fail
            go_roundg (n - (k + 2))
            case measure => omega
            case rel => exact ⟨k + 2, by omega, by go_num, hb.trans hb2, Aside.intro ⟨_, by rw [List.length_append]; have := encode_len (65536 + 1024 * (z - 55296) + y - 56320); omega, .inr hB2, hJ'.out⟩⟩
end Go.Proofs.YtcdcfhplkimecaaGreatDoor
