/- The walk of token's gap. -/
import Derived.Test.YtpkmbhnikilihaaGreatDoorQp6
import Derived.Laws.MakeOwn
import Derived.Outline
import Derived.Shelf.Strings.OnBuilder
import Derived.StillTailTactics
import Derived.Deep.CutBlock
namespace Go.Proofs.YtpkmbhnikilihaaGreatDoor
open Go.RowKit
theorem indexAny_ends (s : ByteArray) (w : World) (hs : s.size ≤ 9000) : Calls Tryz.prog 231 #[.string s, .string ⟨#[10, 13]⟩] w fun e w' => e = .returned (.int .i64 (Lib.indexAny s.data.toList [10, 13])) ∧ Below w.heap.size w w' := by
 by_cases h8 : s.size ≤ 8
 · exact indexAny_short s w h8
 · exact indexAny_long s ⟨#[10, 13]⟩ w (by decide) (by omega) (by omega) (by decide) (fun j b hb => by
    match j, hb with
    | 0, hb => cases hb; decide
    | 1, hb => cases hb; decide
    | j + 2, hb => simp at hb)
theorem idx_eol : ∀ l : List UInt8, Lib.indexAny l [10, 13] = if (l.takeWhile noEol).length < l.length then ((l.takeWhile noEol).length : Int) else -1 := by
 intro l
 induction l with
 | nil => rfl
 | cons b t ih =>
   have hb : ([10, 13] : List UInt8).contains b = !noEol b := by unfold noEol; cases h10 : (b == 10) <;> cases h13 : (b == 13) <;> simp_all
   rw [Lib.indexAny, hb, List.takeWhile_cons]
   cases hn : noEol b
   · simp
   · have := takeWhile_le noEol t
     simp only [Bool.not_true, Bool.false_eq_true, if_false, if_true, List.length_cons]
     rw [ih]
     by_cases h : (t.takeWhile noEol).length < t.length
     · rw [if_pos h, if_neg (show ¬ (((t.takeWhile noEol).length : Int) == -1) = true by simp), if_pos (show (t.takeWhile noEol).length + 1 < t.length + 1 by omega)]
       omega
     · rw [if_neg h, if_pos (show ((-1 : Int) == -1) = true by rfl), if_neg (show ¬ (t.takeWhile noEol).length + 1 < t.length + 1 by omega)]
theorem gapL_at (s : ByteArray) (h : 0 < s.size) (hp : pre [239, 187, 191] s.data.toList = false) : gapL s.data.toList = if isGap s[0] then 1 else if s[0] == 35 then 1 + ((s.data.toList.drop 1).takeWhile noEol).length else 0 := by
 rw [cons_at s h] at hp
 conv => lhs; rw [cons_at s h]
 simp only [gapL, hp]
 rfl
set_option maxRecDepth 100000 in
set_option maxHeartbeats 1000000 in
theorem gap_any (s : ByteArray) (w : World) (hs : s.size ≤ 9000) : Calls Tryz.prog 169 #[.string s] w fun e w' => e = .returned (.int .i64 (gapL s.data.toList)) ∧ Below w.heap.size w w' := by
 cases hp : pre [239, 187, 191] s.data.toList
 · have HP := Hd (hasP s ⟨#[239, 187, 191]⟩ w false hp)
   rcases Nat.eq_zero_or_pos s.size with h0 | h0
   · have hr : Hid (gapL s.data.toList = 0) := Hd (by rw [nil_of_size h0]; rfl)
     have he := empty_yes h0
     clear hp
     go_enter Tryz.func169, Tryz.ntmps169
     go_wp2_with fail
     refine HP.out.mono ?_
     rintro e w1 ⟨rfl, rfl⟩
     go_wp2_with fail
     go_ret
     exact ⟨by rw [hr.out]; rfl, Below.refl _ _⟩
   have he := empty_no h0
   have hg := gapL_at s h0 hp
   have hI := indexAny_ends s w hs
   rw [idx_eol, cons_at s h0] at hI
   have h0' : (0 : Int) < (s.size : Int) := by omega
   clear hp
   cases c9 : (s[0] == 9)
   · obtain ⟨a1, a2⟩ := beqF c9 9 rfl
     cases c10 : (s[0] == 10)
     · obtain ⟨b1, b2⟩ := beqF c10 10 rfl
       cases c13 : (s[0] == 13)
       · obtain ⟨c1, c2⟩ := beqF c13 13 rfl
         cases c32 : (s[0] == 32)
         · obtain ⟨d1, d2⟩ := beqF c32 32 rfl
           cases c44 : (s[0] == 44)
           · obtain ⟨f1, f2⟩ := beqF c44 44 rfl
             have hgn : isGap s[0] = false := by simp [isGap, c9, c10, c13, c32, c44]
             cases c35 : (s[0] == 35)
             · obtain ⟨g1, g2⟩ := beqF c35 35 rfl
               have hr : Hid (gapL s.data.toList = 0) := Hd (by rw [hg, hgn, c35]; rfl)
               clear hg hI hgn c9 c10 c13 c32 c44 c35
               go_enter Tryz.func169, Tryz.ntmps169
               go_wp2_with fail
               refine HP.out.mono ?_
               rintro e w1 ⟨rfl, rfl⟩
               go_wp2_with fail
               go_ret
               exact ⟨by rw [hr.out]; rfl, Below.refl _ _⟩
             · obtain ⟨g1, g2⟩ := beqT c35 35 rfl
               have h35 : s[0] = 35 := by simpa using c35
               rw [hgn, c35] at hg
               simp only [Bool.false_eq_true, if_false, if_true] at hg
               have htl := takeWhile_le noEol (s.data.toList.drop 1)
               rw [List.length_drop, len_data] at htl
               rw [List.takeWhile_cons, show noEol s[0] = true by rw [h35]; rfl, if_pos rfl, List.length_cons, List.length_cons, List.length_drop, len_data] at hI
               obtain ⟨m, hm⟩ : ∃ m, ((s.data.toList.drop 1).takeWhile noEol).length = m := ⟨_, rfl⟩
               rw [hm] at hI hg htl
               have hr := Hd hg
               clear hg hgn c9 c10 c13 c32 c44 c35 hm h35
               by_cases hlt : m + 1 < s.size - 1 + 1
               · rw [if_pos hlt] at hI
                 have HI := Hd hI
                 clear hI
                 have hpos : (0 : Int) < ((m + 1 : Nat) : Int) := by omega
                 go_enter Tryz.func169, Tryz.ntmps169
                 go_wp2_with fail
                 refine HP.out.mono ?_
                 rintro e w1 ⟨rfl, rfl⟩
                 go_wp2_with fail
                 refine HI.out.mono ?_
                 rintro e w1 ⟨rfl, hb⟩
                 have HB := Hd hb
                 clear hb
                 go_wp2_with fail
                 go_ret
                 exact ⟨ret_i (by rw [hr.out]; omega), HB.out⟩
               · rw [if_neg hlt] at hI
                 have HI := Hd hI
                 clear hI
                 go_enter Tryz.func169, Tryz.ntmps169
                 go_wp2_with fail
                 refine HP.out.mono ?_
                 rintro e w1 ⟨rfl, rfl⟩
                 go_wp2_with fail
                 refine HI.out.mono ?_
                 rintro e w1 ⟨rfl, hb⟩
                 have HB := Hd hb
                 clear hb
                 go_wp2_with fail
                 go_ret
                 exact ⟨ret_i (by rw [hr.out]; omega), HB.out⟩
           · obtain ⟨f1, f2⟩ := beqT c44 44 rfl
             have hr : Hid (gapL s.data.toList = 1) := Hd (by rw [hg]; simp [isGap, c9, c10, c13, c32, c44])
             clear hg hI c9 c10 c13 c32 c44
             go_enter Tryz.func169, Tryz.ntmps169
             go_wp2_with fail
             refine HP.out.mono ?_
             rintro e w1 ⟨rfl, rfl⟩
             go_wp2_with fail
             go_ret
             exact ⟨by rw [hr.out]; rfl, Below.refl _ _⟩
         · obtain ⟨d1, d2⟩ := beqT c32 32 rfl
           have hr : Hid (gapL s.data.toList = 1) := Hd (by rw [hg]; simp [isGap, c9, c10, c13, c32])
           clear hg hI c9 c10 c13 c32
           go_enter Tryz.func169, Tryz.ntmps169
           go_wp2_with fail
           refine HP.out.mono ?_
           rintro e w1 ⟨rfl, rfl⟩
           go_wp2_with fail
           go_ret
           exact ⟨by rw [hr.out]; rfl, Below.refl _ _⟩
       · obtain ⟨c1, c2⟩ := beqT c13 13 rfl
         have hr : Hid (gapL s.data.toList = 1) := Hd (by rw [hg]; simp [isGap, c9, c10, c13])
         clear hg hI c9 c10 c13
         go_enter Tryz.func169, Tryz.ntmps169
         go_wp2_with fail
         refine HP.out.mono ?_
         rintro e w1 ⟨rfl, rfl⟩
         go_wp2_with fail
         go_ret
         exact ⟨by rw [hr.out]; rfl, Below.refl _ _⟩
     · obtain ⟨b1, b2⟩ := beqT c10 10 rfl
       have hr : Hid (gapL s.data.toList = 1) := Hd (by rw [hg]; simp [isGap, c9, c10])
       clear hg hI c9 c10
       go_enter Tryz.func169, Tryz.ntmps169
       go_wp2_with fail
       refine HP.out.mono ?_
       rintro e w1 ⟨rfl, rfl⟩
       go_wp2_with fail
       go_ret
       exact ⟨by rw [hr.out]; rfl, Below.refl _ _⟩
   · obtain ⟨a1, a2⟩ := beqT c9 9 rfl
     have hr : Hid (gapL s.data.toList = 1) := Hd (by rw [hg]; simp [isGap, c9])
     clear hg hI c9
     go_enter Tryz.func169, Tryz.ntmps169
     go_wp2_with fail
     refine HP.out.mono ?_
     rintro e w1 ⟨rfl, rfl⟩
     go_wp2_with fail
     go_ret
     exact ⟨by rw [hr.out]; rfl, Below.refl _ _⟩
 · have HP := Hd (hasP s ⟨#[239, 187, 191]⟩ w true hp)
   have hr : Hid (gapL s.data.toList = 3) := Hd (by
     have h3 := pre_len hp
     rw [len_data] at h3
     have h0 : 0 < s.size := by simp at h3; omega
     have hc := cons_at s h0
     rw [hc] at hp ⊢
     have h239 : s[0] = 239 := by
       unfold pre at hp
       rw [List.isPrefixOf_cons_cons] at hp
       simp only [Bool.and_eq_true, beq_iff_eq] at hp
       exact hp.1.symm
     rw [h239] at hp ⊢
     simp only [gapL, hp]
     rfl)
   clear hp
   go_enter Tryz.func169, Tryz.ntmps169
   go_wp2_with fail
   refine HP.out.mono ?_
   rintro e w1 ⟨rfl, rfl⟩
   go_wp2_with fail
   go_ret
   exact ⟨by rw [hr.out]; rfl, Below.refl _ _⟩
theorem gap_at (s : ByteArray) (k : Nat) (w : World) (hs : s.size ≤ 9000) : Calls Tryz.prog 169 #[.string (s.extract k s.size)] w fun e w' => e = .returned (.int .i64 (gapL (s.data.toList.drop k))) ∧ Below w.heap.size w w' := by
 have h := gap_any (s.extract k s.size) w (by rw [ext_size]; omega)
 rwa [ext_data] at h
theorem info_i : (Tryz.prog.info? 3).map (fun i => (i.zero, i.size, i.bytes)) = some (some (.int .i64 0), 1, 8) := by kernel_rfl
theorem own_shape {w : World} {base : Nat} {e : TypeId} {v : Value} {n : Nat} {xs : List Value} (h : w.ownsRow base e 1 v n xs) : ∃ A cap, v = .slice A n cap := by
 rcases h.2 with ⟨hv, hn⟩ | ⟨g, cap, cur, hv, _⟩
 · exact ⟨none, 0, by rw [hv, hn]⟩
 · exact ⟨_, _, hv⟩
theorem ints_own {w : World} {base n : Nat} {A : Option Addr} {cap : Nat} {us : List Int} (h : w.ownsRow base 3 1 (.slice A n cap) us.length (us.map (Value.int .i64))) : n = us.length ∧ IntsAt w w.heap.size A us.length us := by
 rcases h.2 with ⟨hv, hn⟩ | ⟨g, c, cur, hv, hbase, hh, hnc, hm, hcs, htk⟩
 · injection hv with h1 h2 h3
   have hus : us = [] := List.eq_nil_of_length_eq_zero hn
   subst hus
   exact ⟨by simpa using h2, ⟨rfl, fun j z hz => by simp at hz⟩⟩
 · have hv' := hv
   injection hv' with h1 h2 h3
   subst h1
   refine ⟨h2, rfl, fun j z hz => ⟨g, 0, rfl, ?_, ?_⟩⟩
   · exact (h.lt g rfl).2
   · subst h2 h3
     rw [Nat.zero_add, World.ownsRow.cellAt h j (by have := (List.getElem?_eq_some_iff.1 hz).1; omega), List.getElem?_map, hz]
     rfl
def escS (l : List UInt8) : Value := match escL l with | some p => .tuple #[.string ⟨p.1.toArray⟩, .int .i64 p.2] | none => .tuple #[.string ⟨#[]⟩, .int .i64 0]
def escChars : List UInt8 := [34, 92, 47, 98, 102, 110, 114, 116]
def escMeant : List UInt8 := [34, 92, 47, 8, 12, 10, 13, 9]
theorem esc_none : ∀ c : UInt8, Lib.indexByte escChars c < 0 → escB c = none := byte_all (by decide +kernel)
theorem esc_some : ∀ c : UInt8, ¬ Lib.indexByte escChars c < 0 → Lib.indexByte escChars c ≤ 7 ∧ escB c = some (escMeant.getD (Lib.indexByte escChars c).toNat 0) := byte_all (by decide +kernel)
theorem meant_at {j : Nat} (hj : j < 8) (w : World) : (Instr.slice 9 (.string ⟨#[34, 92, 47, 8, 12, 10, 13, 9]⟩) (some (.int .i64 (j : Int))) (some (.int .i64 ((j : Int) + 1))) none).run Tryz.prog w = .ok (.string ⟨#[escMeant.getD j 0]⟩) w := by
 rcases (by omega : j = 0 ∨ j = 1 ∨ j = 2 ∨ j = 3 ∨ j = 4 ∨ j = 5 ∨ j = 6 ∨ j = 7) with rfl | rfl | rfl | rfl | rfl | rfl | rfl | rfl <;> kernel_rfl
theorem own_below {B : Nat} {e : TypeId} {k : Nat} {v : Value} {n : Nat} {xs : List Value} {w w' : World} (h : w.ownsRow B e k v n xs) (hb : Below w.heap.size w w') : w'.ownsRow B e k v n xs :=
 h.kept (row := none) ⟨hb.os, hb.tape, hb.output, hb.size, fun j hj _ => hb.block j hj⟩ (Classical.em _)
def runTo (l : List UInt8) (N : Nat) (us : List Int) : Prop := N = 6 * us.length ∧ hexRun l = us ++ hexRun (l.drop N)
theorem runTo.next {l : List UInt8} {N : Nat} {us : List Int} {u : Int} (h : runTo l N us) (hu : unitAt (l.drop N) = some u) : runTo l (N + 6) (us ++ [u]) := by
 refine ⟨by rw [h.1]; simp; omega, ?_⟩
 rw [h.2, hexRun_some hu, List.drop_drop]
 simp
theorem runTo.done {l : List UInt8} {N : Nat} {us : List Int} (h : runTo l N us) (hu : unitAt (l.drop N) = none) : hexRun l = us := by rw [h.2, hexRun_none hu, List.append_nil]
def ouI (o : Option Int) : Int := match o with | some u => u | none => 0
theorem unitS_ou {l : List UInt8} {o : Option Int} (h : unitAt l = o) : unitS l = .tuple #[.int .i64 (ouI o), .bool o.isSome] := by
 unfold unitS
 rw [h]
 cases o <;> rfl
set_option maxRecDepth 100000 in
set_option maxHeartbeats 1000000 in
theorem escaped_any (s : ByteArray) (w : World) (hs : s.size ≤ 9000) (h3 : Laid3 w) : Calls Tryz.prog 262 #[.string s] w fun e w' => e = .returned (escS s.data.toList) ∧ Below w.heap.size w w' := by
 obtain ⟨i0, hi, hz0, hz1, hz2⟩ := info_parts info_i
 have hU := unit_any s w hs h3
 obtain ⟨o0, ho0⟩ : ∃ o, unitAt s.data.toList = o := ⟨_, rfl⟩
 rw [unitS_ou ho0] at hU
 have HU := Hd hU
 have H3 := Hd h3
 have HO0 := Hd ho0
 clear hU h3 ho0
 go_enter Tryz.func262, Tryz.ntmps262
 go_wp2_with fail
 refine HU.out.mono ?_
 rintro e w1 ⟨rfl, hb⟩
 have HB0 := Hd hb
 clear hb
 go_wp2_with fail
 go_loopg [4, 5, 6, 7] s.size (fun g un nv uv ov wx => ∃ (N : Nat) (us : List Int) (o : Option Int), N + g = s.size ∧ nv = .int .i64 N ∧ uv = .int .i64 (ouI o) ∧ ov = .bool o.isSome ∧ us.length ≤ N ∧ Aside (runTo s.data.toList N us) ∧ Aside (unitAt (s.data.toList.drop N) = o) ∧ wx.ownsRow w.heap.size 3 1 un us.length (us.map (Value.int .i64)) ∧ Below w.heap.size w wx)
 case atStart => exact ⟨0, [], o0, by omega, rfl, rfl, rfl, by simp, Aside.intro ⟨rfl, rfl⟩, Aside.intro HO0.out, World.ownsRow_nil _ _ _ _, HB0.out⟩
 case round =>
  obtain ⟨N, us, o, hN, rfl, rfl, rfl, hul, HR, HO, hown, hb⟩ := hrel
  obtain ⟨A, cap, rfl⟩ := own_shape hown
  have HB := Hd hb
  have hbs := hb.size
  have H3r := Hd (H3.out.below hb)
  clear hb
  cases o with
  | none =>
    have hrun := Hd (HR.out.done HO.out)
    rcases Nat.eq_zero_or_pos N with hz | hz
    · -- no unit: a single sign
      have hus : us = [] := List.eq_nil_of_length_eq_zero (by have := HR.out.1; omega)
      have hn0 : ¬ (0 : Int) < (N : Int) := by omega
      rw [hus] at hrun
      clear HR HO hus hz
      by_cases h2 : s.size < 2
      · have h2' : (s.size : Int) < 2 := by omega
        have hr : Hid (escS s.data.toList = .tuple #[.string ⟨#[]⟩, .int .i64 0]) := Hd (by
          have hl := len_data s
          unfold escS escL
          rw [if_pos hrun.out]
          match s.data.toList, hl with
          | [], _ => rfl
          | [_], _ => rfl
          | _ :: _ :: _, hl => simp only [List.length_cons] at hl; omega)
        clear hrun hown
        go_wp2_with fail
        go_ret2
        exact ⟨by rw [hr.out]; rfl, HB.out⟩
      · have h2' : ¬ (s.size : Int) < 2 := by omega
        have h1s : 1 < s.size := by omega
        have he : escL s.data.toList = (escB s[1]).map fun x => ([x], 2) := by
          unfold escL
          rw [if_pos hrun.out]
          have h0 := cons_at s (by omega)
          rw [drop_at s 1 h1s] at h0
          rw [h0]
        have hI := indexByte_any ⟨#[34, 92, 47, 98, 102, 110, 114, 116]⟩ (s[1].toNat : Int) wr
        rw [show ((s[1].toNat : Int).toNat.toUInt8) = s[1] by simp] at hI
        have en := esc_none s[1]
        have es := esc_some s[1]
        obtain ⟨r, hr⟩ : ∃ r, Lib.indexByte (⟨#[34, 92, 47, 98, 102, 110, 114, 116]⟩ : ByteArray).data.toList s[1] = r := ⟨_, rfl⟩
        change (Lib.indexByte escChars s[1]) = r at hr
        change Calls _ _ _ _ fun e w' => e = .returned (.int .i64 (Lib.indexByte escChars s[1])) ∧ w' = wr at hI
        rw [hr] at hI en es
        have HI := Hd hI
        clear hI hr hrun hown
        by_cases hneg : r < 0
        · have hr' : Hid (escS s.data.toList = .tuple #[.string ⟨#[]⟩, .int .i64 0]) := Hd (by unfold escS; rw [he, en hneg]; rfl)
          clear he en es
          go_wp2_with fail
          refine HI.out.mono ?_
          rintro e w2 ⟨rfl, rfl⟩
          go_wp2_with fail
          go_ret2
          exact ⟨by rw [hr'.out]; rfl, HB.out⟩
        · obtain ⟨e7, ex⟩ := es hneg
          obtain ⟨j, rfl⟩ : ∃ j : Nat, r = j := ⟨r.toNat, by omega⟩
          have hj7 : j < 8 := by omega
          obtain ⟨X, hX⟩ : ∃ X, escMeant.getD j 0 = X := ⟨_, rfl⟩
          have hr' : Hid (escS s.data.toList = .tuple #[.string ⟨#[X]⟩, .int .i64 2]) := Hd (by
           unfold escS
           rw [he, ex, Int.toNat_natCast, hX]
           rfl)
          have hM := fun w => meant_at hj7 w
          rw [hX] at hM
          have hj8 : (j : Int) + 1 ≤ 8 := by omega
          clear he en es ex e7 hX
          go_wp2_with fail
          refine HI.out.mono ?_
          rintro e w2 ⟨rfl, rfl⟩
          go_wp2_with fail
          go_ret2
          exact ⟨by rw [hr'.out]; rfl, HB.out⟩
    · have hn0 : (0 : Int) < (N : Int) := by omega
      have hio := ints_own hown
      have hJ := join_any A us.length cap us wr (by omega) hio.2
      have hne : us ≠ [] := by intro e; have := HR.out.1; rw [e] at this; simp at this; omega
      have HN6 : Hid (N = 6 * us.length) := Hd HR.out.1
      obtain ⟨J, hJs⟩ : ∃ J, joinS us = J := ⟨_, rfl⟩
      cases hjo : joinOk us
      · rw [hjo, hJs] at hJ
        have HJ := Hd hJ
        have hr : Hid (escS s.data.toList = .tuple #[.string ⟨#[]⟩, .int .i64 0]) := Hd (by
          unfold escS escL
          rw [hrun.out, if_neg hne]
          unfold joinOk at hjo
          cases hj : joinL us with
          | none => rfl
          | some x => rw [hj] at hjo; cases hjo)
        clear hJ hjo hJs hrun HR HO hio hown
        go_wp2_with fail
        refine HJ.out.mono ?_
        rintro e w2 ⟨rfl, hb2⟩
        have HB2 := Hd hb2
        clear hb2
        go_wp2_with fail
        go_ret2
        exact ⟨by rw [hr.out]; rfl, HB.out.trans (HB2.out.mono hbs)⟩
      · rw [hjo, hJs] at hJ
        have HJ := Hd hJ
        have hr : Hid (escS s.data.toList = .tuple #[.string J, .int .i64 N]) := Hd (by
          unfold escS escL
          rw [hrun.out, if_neg hne]
          unfold joinOk at hjo
          unfold joinS at hJs
          cases hj : joinL us with
          | none => rw [hj] at hjo; cases hjo
          | some x => rw [hj] at hJs; subst hJs; rw [HN6.out]; rfl)
        clear hJ hjo hJs hrun HR HO hio hown
        go_wp2_with fail
        refine HJ.out.mono ?_
        rintro e w2 ⟨rfl, hb2⟩
        have HB2 := Hd hb2
        clear hb2
        go_wp2_with fail
        go_ret2
        exact ⟨by rw [hr.out]; rfl, HB.out.trans (HB2.out.mono hbs)⟩
  | some u =>
    have h6 : N + 6 ≤ s.size := by
      have := unitAt_len HO.out
      rw [List.length_drop, len_data] at this
      omega
    have h6' : (N : Int) + 6 ≤ (s.size : Int) := by omega
    have hN0 : (0 : Int) ≤ (N : Int) + 6 := by omega
    have hR := Hd (HR.out.next HO.out)
    have hub := unitAt_bd HO.out
    obtain ⟨o2, ho2⟩ : ∃ o, unitAt (s.data.toList.drop (N + 6)) = o := ⟨_, rfl⟩
    have HO2 := Hd ho2
    clear HR HO ho2
    go_wp2_with (at_builtin; refine wpList_append_own _ rfl _ _ 202 rfl w.heap.size 3 i0 (.int .i64 0) 1 8 Tryz.underlying202 hi hz0 hz1 hz2 rfl (by decide) _ _ _ rfl (hown.alloc _) ⟨wr.heap.size, 0, none⟩ 1 1 [.int .i64 u] rfl rfl (cell_one_new _ _ _) (by intro x hx; simp at hx; rcases hx with rfl; rfl) (by unfold maxLen; omega) (by omega) (by simp; omega) ?_; intro v' w3 hown' hgrow _; obtain ⟨A', cap', rfl⟩ := own_shape hown'; have HG := Hd hgrow; have HO := Hd hown'; have HW := Hd hown; clear hgrow hown' hown)
    have hb3 := (HB.out.alloc HB.out.size (.cells #[.int .i64 u] 3)).grown HG.out (by simp; omega) (fun q hq => (HW.out.lt q hq).1)
    have hU2 := unit_at s (N + 6) w3 hs (H3.out.below hb3)
    rw [unitS_ou HO2.out] at hU2
    have HU2 := Hd hU2
    have HB3 := Hd hb3
    clear hU2 hb3
    refine HU2.out.mono ?_
    rintro e w4 ⟨rfl, hb4⟩
    have HB4 := Hd hb4
    clear hb4
    go_wp2_with fail
    go_roundg (gk - 6)
    case measure => omega
    case rel => exact ⟨N + 6, us ++ [u], o2, by omega, by go_num, rfl, rfl, by simp; omega, Aside.intro hR.out, Aside.intro HO2.out, by rw [List.map_append, List.length_append]; exact own_below HO.out HB4.out, HB3.out.trans (HB4.out.mono HB3.out.size)⟩
end Go.Proofs.YtpkmbhnikilihaaGreatDoor
namespace Go.Proofs.YtpkmbhnikilihaaGreatDoor.Blk
open Go.RowKit
theorem Aside.intro {p : Prop} (h : p) : Aside p := h
theorem ret_bool {a b : Bool} (h : a = b) : Ending.returned (.bool a) = .returned (.bool b) := by rw [h]
theorem ret_int {a b : Int} (h : a = b) : Ending.returned (.int .i64 a) = .returned (.int .i64 b) := by rw [h]
theorem ret_str {a b : ByteArray} (h : a = b) : Ending.returned (.string a) = .returned (.string b) := by rw [h]
theorem own_form {w : World} {base : Nat} {e : TypeId} {v : Value} {n : Nat} {xs : List Value} (h : w.ownsRow base e 1 v n xs) : ∃ A cap, v = .slice A n cap := by
 rcases h.2 with ⟨hv, hn⟩ | ⟨g, cap, cur, hv, _⟩
 · exact ⟨none, 0, by rw [hv, hn]⟩
 · exact ⟨_, _, hv⟩
def StrsAt (w : World) (B : Nat) (A : Option Addr) (n : Nat) (xs : List ByteArray) : Prop :=
 xs.length = n ∧ ∀ (j : Nat) x, xs[j]? = some x → ∃ b o, A = some ⟨b, o, none⟩ ∧ b < B ∧ w.cell? ⟨b, o + j, none⟩ = some (.string x)
theorem strs_of_own {w : World} {base n : Nat} {A : Option Addr} {cap : Nat} {xs : List ByteArray} (h : w.ownsRow base 9 1 (.slice A n cap) xs.length (xs.map Value.string)) : n = xs.length ∧ StrsAt w w.heap.size A xs.length xs := by
 rcases h.2 with ⟨hv, hn⟩ | ⟨g, c, cur, hv, hbase, hh, hnc, hm, hcs, htk⟩
 · injection hv with h1 h2 h3
   have hus : xs = [] := List.eq_nil_of_length_eq_zero hn
   subst hus
   exact ⟨by simpa using h2, ⟨rfl, fun j z hz => by simp at hz⟩⟩
 · have hv' := hv
   injection hv' with h1 h2 h3
   subst h1
   refine ⟨h2, rfl, fun j z hz => ⟨g, 0, rfl, ?_, ?_⟩⟩
   · exact (h.lt g rfl).2
   · subst h2 h3
     rw [Nat.zero_add, World.ownsRow.cellAt h j (by have := (List.getElem?_eq_some_iff.1 hz).1; omega), List.getElem?_map, hz]
     rfl
def linesB (l : List UInt8) : List ByteArray := (linesL l).map fun x => ⟨x.toArray⟩
theorem ne_lit {b c : UInt8} (h : b ≠ c) : (b.toNat : Int) ≠ (c.toNat : Int) := fun e => h (UInt8.toNat_inj.1 (by omega))
theorem beq_ne {b : UInt8} {z : Int} (h : (b.toNat : Int) ≠ z) : ((b.toNat : Int) == z) = false := by simp [h]
theorem bne_ne {b : UInt8} {z : Int} (h : (b.toNat : Int) ≠ z) : ((b.toNat : Int) != z) = true := by simp [h]
theorem drop_at (s : ByteArray) (f k : Nat) (hf : f ≤ k) (hk : k < s.size) : s.data.toList.drop f = (s.data.toList.drop f).take (k - f) ++ s[k] :: s.data.toList.drop (k + 1) := by
 have hl : s.data.toList.length = s.size := Array.length_toList
 have e := (List.take_append_drop (k - f) (s.data.toList.drop f)).symm
 rw [List.drop_drop, show f + (k - f) = k from by omega, List.drop_eq_getElem_cons (i := k) (by omega)] at e
 exact e
theorem plain_more {s : ByteArray} {f k : Nat} (hf : f ≤ k) (hk : k < s.size) (h : plainL ((s.data.toList.drop f).take (k - f))) (hc : eolB s[k] = false) : plainL ((s.data.toList.drop f).take (k + 1 - f)) := by
 have hl : s.data.toList.length = s.size := Array.length_toList
 have e : (s.data.toList.drop f).take (k + 1 - f) = (s.data.toList.drop f).take (k - f) ++ [s[k]] := by
   rw [show k + 1 - f = (k - f) + 1 from by omega, List.take_add_one, List.getElem?_drop, show f + (k - f) = k from by omega, List.getElem?_eq_getElem (by omega)]
   rfl
 rw [e]
 intro c hc'
 rw [List.mem_append] at hc'
 rcases hc' with h' | h'
 · exact h c h'
 · simp only [List.mem_cons, List.not_mem_nil, or_false] at h'
   rw [h']; exact hc
def LinesTo (s : ByteArray) (f k : Nat) (done : List ByteArray) : Prop := done ++ linesB (s.data.toList.drop f) = linesB s.data.toList ∧ plainL ((s.data.toList.drop f).take (k - f))
theorem mk_of {S : ByteArray} {a : List UInt8} (h : S.data.toList = a) : (⟨a.toArray⟩ : ByteArray) = S := by subst h; simp
theorem extract_list (s : ByteArray) (f k : Nat) : (s.extract f k).data.toList = (s.data.toList.drop f).take (k - f) := by
 rw [ByteArray.data_extract, Array.toList_extract, List.extract]
theorem LinesTo.ten {s : ByteArray} {f k : Nat} {done : List ByteArray} (h : LinesTo s f k done) (hf : f ≤ k) (hk : k < s.size) (hc : s[k] = 10) : LinesTo s (k + 1) (k + 1) (done ++ [s.extract f k]) := by
 obtain ⟨h1, h2⟩ := h
 rw [drop_at s f k hf hk, hc] at h1
 unfold linesB at h1
 rw [linesL_ten h2, List.map_cons, mk_of (extract_list s f k)] at h1
 exact ⟨by unfold linesB; rw [← h1]; simp, by simp [plainL]⟩
theorem LinesTo.both {s : ByteArray} {f k : Nat} {done : List ByteArray} (h : LinesTo s f k done) (hf : f ≤ k) (hk : k + 1 < s.size) (hc : s[k] = 13) (hd : s[k + 1] = 10) : LinesTo s (k + 2) (k + 2) (done ++ [s.extract f k]) := by
 obtain ⟨h1, h2⟩ := h
 have hl : s.data.toList.length = s.size := Array.length_toList
 have e : s.data.toList.drop (k + 1) = s[k + 1] :: s.data.toList.drop (k + 2) := List.drop_eq_getElem_cons (by omega)
 rw [drop_at s f k hf (by omega), hc, e, hd] at h1
 unfold linesB at h1
 rw [linesL_both h2, List.map_cons, mk_of (extract_list s f k)] at h1
 exact ⟨by unfold linesB; rw [← h1]; simp, by simp [plainL]⟩
theorem LinesTo.cr {s : ByteArray} {f k : Nat} {done : List ByteArray} (h : LinesTo s f k done) (hf : f ≤ k) (hk : k < s.size) (hc : s[k] = 13) (hd : ∀ (h : k + 1 < s.size), s[k + 1] ≠ 10) : LinesTo s (k + 1) (k + 1) (done ++ [s.extract f k]) := by
 obtain ⟨h1, h2⟩ := h
 have hl : s.data.toList.length = s.size := Array.length_toList
 have hr : (s.data.toList.drop (k + 1)).head? ≠ some 10 := by
  rw [List.head?_drop]
  by_cases hk1 : k + 1 < s.size
  · rw [List.getElem?_eq_getElem (by omega)]
    intro e
    injection e with e
    exact hd hk1 e
  · rw [List.getElem?_eq_none (by omega)]
    intro e; cases e
 rw [drop_at s f k hf hk, hc] at h1
 unfold linesB at h1
 rw [linesL_cr h2 hr, List.map_cons, mk_of (extract_list s f k)] at h1
 exact ⟨by unfold linesB; rw [← h1]; simp, by simp [plainL]⟩
theorem LinesTo.done {s : ByteArray} {f : Nat} {done : List ByteArray} (h : LinesTo s f s.size done) : linesB s.data.toList = done ++ [s.extract f s.size] := by
 obtain ⟨h1, h2⟩ := h
 have hl : s.data.toList.length = s.size := Array.length_toList
 rw [List.take_of_length_le (by rw [List.length_drop]; omega)] at h2
 rw [← h1]
 unfold linesB
 rw [linesL_one h2]
 have := mk_of (extract_list s f s.size)
 rw [List.take_of_length_le (by rw [List.length_drop]; omega)] at this
 simp [this]
theorem info_str : ∃ i0, Tryz.prog.info? 9 = some i0 ∧ i0.zero = some (.string ByteArray.empty) ∧ i0.size = 1 ∧ i0.bytes = 16 := by
 have hi9 : (Tryz.prog.info? 9).map (fun i => (i.zero, i.size, i.bytes)) = some (some (.string ByteArray.empty), 1, 16) := by kernel_rfl
 obtain ⟨i0, hi, hx⟩ := Option.map_eq_some_iff.1 hi9
 simp only [Prod.mk.injEq] at hx
 exact ⟨i0, hi, hx.1, hx.2.1, hx.2.2⟩
set_option maxRecDepth 100000 in
set_option maxHeartbeats 1000000 in
theorem plines_any (s : ByteArray) (w : World) (hs : s.size ≤ 13000) :
  Calls Tryz.prog 285 #[.string s] w fun e w' => ∃ A cap, e = .returned (.slice A (linesB s.data.toList).length cap) ∧ w'.ownsRow w.heap.size 9 1 (.slice A (linesB s.data.toList).length cap) (linesB s.data.toList).length ((linesB s.data.toList).map Value.string) ∧ Below w.heap.size w w' := by
 obtain ⟨i0, hi, hz0, hz1, hz2⟩ := info_str
 go_enter Tryz.func285, Tryz.ntmps285
 go_wp2
 go_loopg [3, 4, 5] s.size (fun g out fr i wx => ∃ (k f : Nat) (done : List ByteArray), f ≤ k ∧ k + g = s.size ∧ i = .int .i64 k ∧ fr = .int .i64 f ∧ done.length ≤ k ∧ Aside (LinesTo s f k done) ∧ wx.ownsRow w.heap.size 9 1 out done.length (done.map Value.string) ∧ Below w.heap.size w wx)
 case atStart => exact ⟨0, 0, [], by omega, by omega, rfl, rfl, by simp, Aside.intro ⟨by simp, by simp [plainL]⟩, World.ownsRow_nil _ _ _ _, Below.refl _ _⟩
 case round =>
  obtain ⟨k, f, done, hfk, hk, rfl, rfl, hdl, H, hown, hb⟩ := hrel
  obtain ⟨A, cap, rfl⟩ := own_form hown
  have hf0 : (0 : Int) ≤ (f : Int) := by omega
  have hfk' : (f : Int) ≤ (k : Int) := by omega
  have hks : (k : Int) ≤ (s.size : Int) := by omega
  have HB := Hd hb
  have hbs := hb.size
  clear hb
  cases gk with
  | zero =>
    obtain rfl : k = s.size := by omega
    have hdone := Hd (H.out.done)
    clear H
    go_wp2_with (at_builtin; refine wpList_append_own _ rfl _ _ 51 rfl w.heap.size 9 i0 (.string ByteArray.empty) 1 16 Tryz.underlying51 hi hz0 hz1 hz2 rfl (by decide) _ _ _ rfl (hown.alloc _) ⟨wr.heap.size, 0, none⟩ 1 1 [.string (s.extract f s.size)] rfl rfl (cell_one_new _ _ _) (by intro x hx; simp at hx; rcases hx with rfl; rfl) (by unfold maxLen; omega) (by omega) (by simp; omega) ?_; intro v' w3 hown' hgrow _; obtain ⟨A', cap', rfl⟩ := own_form hown'; have HG := Hd hgrow; have HO := Hd hown'; have HW := Hd hown; clear hgrow hown' hown)
    go_ret
    refine ⟨A', cap', ?_, ?_, (HB.out.alloc HB.out.size _).grown HG.out (by simp; omega) (fun q hq => (HW.out.lt q hq).1)⟩
    · rw [hdone.out, List.length_append]; rfl
    · rw [hdone.out, List.map_append, List.length_append]; exact HO.out
  | succ g =>
    have hlt : k < s.size := by omega
    have hlt' : (k : Int) < (s.size : Int) := by omega
    by_cases c10 : s[k] = 10
    · have n10 : ((s[k].toNat : Int) != 10) = false := by rw [c10]; rfl
      have n13 : ((s[k].toNat : Int) == 13) = false := by rw [c10]; rfl
      have hT := Hd (H.out.ten hfk hlt c10)
      clear H c10
      go_wp2_with (at_builtin; refine wpList_append_own _ rfl _ _ 51 rfl w.heap.size 9 i0 (.string ByteArray.empty) 1 16 Tryz.underlying51 hi hz0 hz1 hz2 rfl (by decide) _ _ _ rfl (hown.alloc _) ⟨wr.heap.size, 0, none⟩ 1 1 [.string (s.extract f k)] rfl rfl (cell_one_new _ _ _) (by intro x hx; simp at hx; rcases hx with rfl; rfl) (by unfold maxLen; omega) (by omega) (by simp; omega) ?_; intro v' w3 hown' hgrow _; obtain ⟨A', cap', rfl⟩ := own_form hown'; have HG := Hd hgrow; have HO := Hd hown'; have HW := Hd hown; clear hgrow hown' hown)
      go_roundg g
      case measure => omega
      case rel => exact ⟨k + 1, k + 1, done ++ [s.extract f k], by omega, by omega, by go_num, by go_num, by simp; omega, Aside.intro hT.out, by rw [List.map_append, List.length_append]; exact HO.out, (HB.out.alloc HB.out.size _).grown HG.out (by simp; omega) (fun q hq => (HW.out.lt q hq).1)⟩
    by_cases c13 : s[k] = 13
    · have n10 : ((s[k].toNat : Int) != 10) = true := by rw [c13]; rfl
      have n13 : ((s[k].toNat : Int) != 13) = false := by rw [c13]; rfl
      have m13 : ((s[k].toNat : Int) == 13) = true := by rw [c13]; rfl
      by_cases hk1 : k + 1 < s.size
      · have hk1' : (k : Int) + 1 < (s.size : Int) := by omega
        by_cases d10 : s[k + 1] = 10
        · have m10 : ((s[k + 1].toNat : Int) == 10) = true := by rw [d10]; rfl
          have hT := Hd (H.out.both hfk hk1 c13 d10)
          clear H c10 c13 d10
          go_wp2_with (at_builtin; refine wpList_append_own _ rfl _ _ 51 rfl w.heap.size 9 i0 (.string ByteArray.empty) 1 16 Tryz.underlying51 hi hz0 hz1 hz2 rfl (by decide) _ _ _ rfl (hown.alloc _) ⟨wr.heap.size, 0, none⟩ 1 1 [.string (s.extract f k)] rfl rfl (cell_one_new _ _ _) (by intro x hx; simp at hx; rcases hx with rfl; rfl) (by unfold maxLen; omega) (by omega) (by simp; omega) ?_; intro v' w3 hown' hgrow _; obtain ⟨A', cap', rfl⟩ := own_form hown'; have HG := Hd hgrow; have HO := Hd hown'; have HW := Hd hown; clear hgrow hown' hown)
          go_roundg (s.size - (k + 2))
          case measure => omega
          case rel => exact ⟨k + 2, k + 2, done ++ [s.extract f k], by omega, by omega, by go_num, by go_num, by simp; omega, Aside.intro hT.out, by rw [List.map_append, List.length_append]; exact HO.out, (HB.out.alloc HB.out.size _).grown HG.out (by simp; omega) (fun q hq => (HW.out.lt q hq).1)⟩
        · have m10 : ((s[k + 1].toNat : Int) == 10) = false := beq_ne (ne_lit d10)
          have hT := Hd (H.out.cr hfk hlt c13 (fun _ => d10))
          clear H c10 c13 d10
          go_wp2_with (at_builtin; refine wpList_append_own _ rfl _ _ 51 rfl w.heap.size 9 i0 (.string ByteArray.empty) 1 16 Tryz.underlying51 hi hz0 hz1 hz2 rfl (by decide) _ _ _ rfl (hown.alloc _) ⟨wr.heap.size, 0, none⟩ 1 1 [.string (s.extract f k)] rfl rfl (cell_one_new _ _ _) (by intro x hx; simp at hx; rcases hx with rfl; rfl) (by unfold maxLen; omega) (by omega) (by simp; omega) ?_; intro v' w3 hown' hgrow _; obtain ⟨A', cap', rfl⟩ := own_form hown'; have HG := Hd hgrow; have HO := Hd hown'; have HW := Hd hown; clear hgrow hown' hown)
          go_roundg g
          case measure => omega
          case rel => exact ⟨k + 1, k + 1, done ++ [s.extract f k], by omega, by omega, by go_num, by go_num, by simp; omega, Aside.intro hT.out, by rw [List.map_append, List.length_append]; exact HO.out, (HB.out.alloc HB.out.size _).grown HG.out (by simp; omega) (fun q hq => (HW.out.lt q hq).1)⟩
      · have hk1' : ¬ ((k : Int) + 1 < (s.size : Int)) := by omega
        have hT := Hd (H.out.cr hfk hlt c13 (fun h => absurd h hk1))
        clear H c10 c13
        go_wp2_with (at_builtin; refine wpList_append_own _ rfl _ _ 51 rfl w.heap.size 9 i0 (.string ByteArray.empty) 1 16 Tryz.underlying51 hi hz0 hz1 hz2 rfl (by decide) _ _ _ rfl (hown.alloc _) ⟨wr.heap.size, 0, none⟩ 1 1 [.string (s.extract f k)] rfl rfl (cell_one_new _ _ _) (by intro x hx; simp at hx; rcases hx with rfl; rfl) (by unfold maxLen; omega) (by omega) (by simp; omega) ?_; intro v' w3 hown' hgrow _; obtain ⟨A', cap', rfl⟩ := own_form hown'; have HG := Hd hgrow; have HO := Hd hown'; have HW := Hd hown; clear hgrow hown' hown)
        go_roundg g
        case measure => omega
        case rel => exact ⟨k + 1, k + 1, done ++ [s.extract f k], by omega, by omega, by go_num, by go_num, by simp; omega, Aside.intro hT.out, by rw [List.map_append, List.length_append]; exact HO.out, (HB.out.alloc HB.out.size _).grown HG.out (by simp; omega) (fun q hq => (HW.out.lt q hq).1)⟩
    · have n10 : ((s[k].toNat : Int) != 10) = true := bne_ne (ne_lit c10)
      have n13 : ((s[k].toNat : Int) != 13) = true := bne_ne (ne_lit c13)
      have hT : Hid (LinesTo s f (k + 1) done) := Hd ⟨H.out.1, plain_more hfk hlt H.out.2 (by simp [eolB, c10, c13])⟩
      clear H c10 c13
      go_wp2
      go_roundg g
      case measure => omega
      case rel => exact ⟨k + 1, f, done, by omega, by omega, by go_num, rfl, by omega, Aside.intro hT.out, hown, HB.out⟩
theorem lead_at {l : List UInt8} {k : Nat} {c : UInt8} (h : (l.take k).all blankB = true) (hc : l[k]? = some c) (hn : blankB c = false) : leadN l = k ∧ inkB l = true := by
 obtain ⟨hk, rfl⟩ := List.getElem?_eq_some_iff.1 hc
 have e : l = l.take k ++ l[k] :: l.drop (k + 1) := by rw [← List.drop_eq_getElem_cons hk, List.take_append_drop]
 have hl : (l.take k).length = k := by rw [List.length_take]; omega
 constructor
 · unfold leadN
   have ht : ∀ (a r : List UInt8) (d : UInt8), a.all blankB = true → blankB d = false → (a ++ d :: r).takeWhile blankB = a := by
    intro a r d ha hd
    induction a with
    | nil => simp [hd]
    | cons x a ih =>
      rw [List.all_cons, Bool.and_eq_true] at ha
      rw [List.cons_append, List.takeWhile_cons, ha.1]
      simp only [if_true]
      rw [ih ha.2]
   rw [e, ht _ _ _ h hn, hl]
 · unfold inkB
   rw [List.any_eq_true]
   exact ⟨l[k], List.getElem_mem hk, by simp [hn]⟩
theorem lead_end {l : List UInt8} (h : l.all blankB = true) : leadN l = l.length ∧ inkB l = false := by
 constructor
 · unfold leadN
   have ht : ∀ (a : List UInt8), a.all blankB = true → a.takeWhile blankB = a := by
    intro a ha
    induction a with
    | nil => rfl
    | cons x a ih =>
      rw [List.all_cons, Bool.and_eq_true] at ha
      rw [List.takeWhile_cons, ha.1]
      simp only [if_true]
      rw [ih ha.2]
   rw [ht l h]
 · unfold inkB
   rw [List.any_eq_false]
   intro c hc
   have := List.all_eq_true.1 h c hc
   simp [this]
theorem leadN_le (l : List UInt8) : leadN l ≤ l.length := by
 unfold leadN
 induction l with
 | nil => simp
 | cons c t ih => rw [List.takeWhile_cons]; split <;> simp <;> omega
theorem blank_more {s : ByteArray} {k : Nat} (hk : k < s.size) (h : (s.data.toList.take k).all blankB = true) (hc : blankB s[k] = true) : (s.data.toList.take (k + 1)).all blankB = true := by
 have hl : s.data.toList.length = s.size := Array.length_toList
 rw [List.take_add_one, List.getElem?_eq_getElem (by omega), List.all_append, h]
 simp only [Option.toList, List.all_cons, List.all_nil, Bool.and_true, Bool.true_and]
 exact hc
def bytesL (xs : List ByteArray) : List (List UInt8) := xs.map fun x => x.data.toList
def indTo (xs : List ByteArray) (k : Nat) : Int := (((bytesL xs).drop 1).take (k - 1)).foldl stepI (-1)
theorem indTo_succ {xs : List ByteArray} {k : Nat} {x : ByteArray} (hk : 1 ≤ k) (hx : xs[k]? = some x) : indTo xs (k + 1) = stepI (indTo xs k) x.data.toList := by
 unfold indTo
 rw [show k + 1 - 1 = (k - 1) + 1 from by omega, List.take_add_one, List.getElem?_drop, show 1 + (k - 1) = k from by omega]
 unfold bytesL
 rw [List.getElem?_map, hx]
 simp [List.foldl_append]
theorem indTo_all {xs : List ByteArray} {k : Nat} (hk : xs.length ≤ k) : indTo xs k = indentL (bytesL xs) := by
 unfold indTo indentL
 rw [List.take_of_length_le (by simp [bytesL]; omega)]
theorem indTo_bd (xs : List ByteArray) (hx : ∀ x ∈ xs, x.size ≤ 100000) : ∀ k, -1 ≤ indTo xs k ∧ indTo xs k ≤ 100000 := by
 have hf : ∀ (ls : List (List UInt8)) (o : Int), (∀ l ∈ ls, l.length ≤ 100000) → -1 ≤ o → o ≤ 100000 → -1 ≤ ls.foldl stepI o ∧ ls.foldl stepI o ≤ 100000 := by
  intro ls
  induction ls with
  | nil => intro o _ h1 h2; exact ⟨h1, h2⟩
  | cons l ls ih =>
    intro o hl h1 h2
    rw [List.foldl_cons]
    have := leadN_le l
    have hll := hl l (by simp)
    refine ih _ (fun l' hl' => hl l' (by simp [hl'])) ?_ ?_
    · unfold stepI; split <;> omega
    · unfold stepI; split <;> omega
 intro k
 refine hf _ _ (fun l hl => ?_) (by omega) (by omega)
 have h1 := List.mem_of_mem_take hl
 have h2 := List.mem_of_mem_drop h1
 obtain ⟨x, hx', rfl⟩ := List.mem_map.1 h2
 have := hx x hx'
 rw [Lib.size_eq] at this
 exact this
theorem blankB_int (c : UInt8) : blankB c = (((c.toNat : Int) == 9) || ((c.toNat : Int) == 32)) := by
 unfold blankB
 by_cases h9 : c = 9
 · subst h9; rfl
 by_cases h32 : c = 32
 · subst h32; rfl
 have e9 : ((c.toNat : Int) == 9) = false := beq_ne (ne_lit h9)
 have e32 : ((c.toNat : Int) == 32) = false := beq_ne (ne_lit h32)
 rw [e9, e32]
 simp [h9, h32]
theorem pblank_any (c : UInt8) (w : World) : Calls Tryz.prog 302 #[.int .u8 (c.toNat : Int)] w fun e w' => e = .returned (.bool (blankB c)) ∧ w = w' := by
 have H := Hd (blankB_int c)
 by_cases h9 : c = 9
 · subst h9
   go_enter Tryz.func302, Tryz.ntmps302
   go_wp2
   go_ret
   exact ⟨rfl, rfl⟩
 · have n9 : ((c.toNat : Int) == 9) = false := beq_ne (ne_lit h9)
   by_cases h32 : c = 32
   · subst h32
     go_enter Tryz.func302, Tryz.ntmps302
     go_wp2
     go_ret
     exact ⟨rfl, rfl⟩
   · have n32 : ((c.toNat : Int) == 32) = false := beq_ne (ne_lit h32)
     have hf : Hid (blankB c = false) := Hd (by rw [H.out, n9, n32]; rfl)
     go_enter Tryz.func302, Tryz.ntmps302
     go_wp2
     go_ret
     exact ⟨ret_bool hf.out.symm, rfl⟩
set_option maxRecDepth 100000 in
theorem pbare_any (s : ByteArray) (w : World) (hs : s.size ≤ 100000) : Calls Tryz.prog 287 #[.string s] w fun e w' => e = .returned (.bool (!inkB s.data.toList)) ∧ w = w' := by
 have HL : Hid (s.data.toList.length = s.size) := Hd Array.length_toList
 go_enter Tryz.func287, Tryz.ntmps287
 go_wp2_with fail
 go_loopg [6] s.size (fun g i wx => ∃ k : Nat, k + g = s.size ∧ i = .int .i64 k ∧ Aside ((s.data.toList.take k).all blankB = true) ∧ w = wx)
 case atStart => exact ⟨0, by omega, rfl, Aside.intro (by simp), rfl⟩
 case round =>
  obtain ⟨k, hk, rfl, H, rfl⟩ := hrel
  cases gk with
  | zero =>
    obtain rfl : k = s.size := by omega
    have he := H.out
    rw [List.take_of_length_le (by rw [HL.out]; omega)] at he
    have h2 := Hd (lead_end he).2
    clear he H
    go_wp2_with fail
    go_ret
    exact ⟨ret_bool (by rw [h2.out]; rfl), rfl⟩
  | succ g =>
    have hlt : k < s.size := by omega
    have hlt' : (k : Int) < (s.size : Int) := by omega
    have HB := Hd (fun w => pblank_any s[k] w)
    cases hb : blankB s[k]
    · have hT := Hd (lead_at H.out (by rw [List.getElem?_eq_getElem (by rw [HL.out]; exact hlt)]; rfl) hb).2
      have hB := Hd hb
      clear H hb
      go_wp2_with fail
      refine (HB.out _).mono ?_
      rintro e w1 ⟨rfl, rfl⟩
      rw [hB.out]
      go_wp2_with fail
      go_ret
      exact ⟨ret_bool (by rw [hT.out]; rfl), rfl⟩
    · have hT := Hd (blank_more hlt H.out hb)
      have hB := Hd hb
      clear H hb
      go_wp2_with fail
      refine (HB.out _).mono ?_
      rintro e w1 ⟨rfl, rfl⟩
      rw [hB.out]
      go_wp2_with fail
      go_roundg g
      case measure => omega
      case rel => exact ⟨k + 1, by omega, by go_num, Aside.intro hT.out, rfl⟩
set_option maxRecDepth 100000 in
set_option maxHeartbeats 1000000 in
theorem pindent_any (A : Option Addr) (n c : Nat) (xs : List ByteArray) (w : World) (hn : n ≤ 100000) (hz : StrsAt w w.heap.size A n xs) (hx : ∀ x ∈ xs, x.size ≤ 100000) :
  Calls Tryz.prog 286 #[.slice A n c] w fun e w' => e = .returned (.int .i64 (indentL (bytesL xs))) ∧ w = w' := by
 have HZ := Hd hz
 have HX := Hd hx
 clear hz hx
 go_enter Tryz.func286, Tryz.ntmps286
 go_wp2
 go_step3
 go_wp2
 go_step3
 go_wp2
 go_loopg [3, 9] n (fun g out i wx => ∃ k : Nat, k + g = n ∧ i = .int .i64 k ∧ out = .int .i64 (indTo xs k) ∧ w = wx)
 case atStart => exact ⟨0, by omega, rfl, by simp [indTo], rfl⟩
 case round =>
  obtain ⟨k, hkg, rfl, rfl, rfl⟩ := hrel
  have hbd := indTo_bd xs HX.out k
  have hbd1 := hbd.1
  have hbd2 := hbd.2
  clear hbd
  cases gk with
  | zero =>
    obtain rfl : k = n := by omega
    have hfin := Hd (indTo_all (xs := xs) (k := k) (by rw [HZ.out.1]; omega))
    go_wp2_with fail
    try rw [Exit.noGoto_ret]
    go_ret
    exact ⟨ret_int hfin.out, rfl⟩
  | succ g =>
    have hlt' : (k : Int) < (n : Int) := by omega
    obtain ⟨x, hxk⟩ : ∃ x, xs[k]? = some x := ⟨_, List.getElem?_eq_getElem (by rw [HZ.out.1]; omega)⟩
    obtain ⟨b, o, rfl, hblt, hcell⟩ := HZ.out.2 k x hxk
    have hxs : x.size ≤ 100000 := HX.out x (List.mem_of_getElem? hxk)
    have hk0 : (0 : Int) ≤ (k : Int) := by omega
    by_cases hk : k = 0
    · have hs : Hid (indTo xs (k + 1) = indTo xs k) := Hd (by simp [indTo, hk])
      have hkeq : ((k : Int) == 0) = true := by simp; omega
      clear hxk hk
      generalize indTo xs k = v at *
      go_wp2_with fail
      go_roundg g
      case measure => omega
      case rel => exact ⟨k + 1, by omega, by go_num, by rw [hs.out], rfl⟩
    · have hk1 : 1 ≤ k := by omega
      have hkne : ((k : Int) == 0) = false := by simp; omega
      have hs := Hd (indTo_succ hk1 hxk)
      have HXL : Hid (x.data.toList.length = x.size) := Hd Array.length_toList
      clear hxk hk
      generalize indTo xs k = v at *
      go_wp2_with fail
      go_loopg [3, 18] x.size (fun g2 out i wx => ∃ j : Nat, j + g2 = x.size ∧ i = .int .i64 j ∧ out = .int .i64 v ∧ Aside ((x.data.toList.take j).all blankB = true) ∧ w = wx)
      case atStart => exact ⟨0, by omega, rfl, rfl, Aside.intro (by simp), rfl⟩
      case round =>
       obtain ⟨j, hj, rfl, rfl, H, rfl⟩ := hrel
       cases gk with
       | zero =>
         obtain rfl : j = x.size := by omega
         have he := H.out
         rw [List.take_of_length_le (by rw [HXL.out]; omega)] at he
         have h2 := (lead_end he).2
         have hst : Hid (indTo xs (k + 1) = v) := Hd (by rw [hs.out]; unfold stepI; rw [if_neg (by rw [h2]; simp)])
         clear he H h2
         go_wp2_with fail
         go_roundg g
         case measure => omega
         case rel => exact ⟨k + 1, by omega, by go_num, by rw [hst.out], rfl⟩
       | succ g2 =>
         have hlt : j < x.size := by omega
         have hltj : (j : Int) < (x.size : Int) := by omega
         have hj0 : (0 : Int) ≤ (j : Int) := by omega
         have HB := Hd (fun w => pblank_any x[j] w)
         cases hb : blankB x[j]
         · have hx2 := lead_at H.out (by rw [List.getElem?_eq_getElem (by rw [HXL.out]; exact hlt)]; rfl) hb
           have hB := Hd hb
           have hx21 := Hd hx2.1
           have hx22 := Hd hx2.2
           clear H hb hx2
           by_cases hv : v < 0
           · have hst : Hid (indTo xs (k + 1) = (j : Int)) := Hd (by rw [hs.out]; unfold stepI; rw [hx21.out, if_pos ⟨hx22.out, .inl hv⟩])
             go_wp2_with fail
             refine (HB.out _).mono ?_
             rintro e w1 ⟨rfl, rfl⟩
             rw [hB.out]
             go_wp2_with fail
             go_roundg g
             case measure => omega
             case rel => exact ⟨k + 1, by omega, by go_num, by rw [hst.out], rfl⟩
           · have e1 : decide (v < 0) = false := by simp; omega
             by_cases hmv : (j : Int) < v
             · have hst : Hid (indTo xs (k + 1) = (j : Int)) := Hd (by rw [hs.out]; unfold stepI; rw [hx21.out, if_pos ⟨hx22.out, .inr hmv⟩])
               go_wp2_with fail
               refine (HB.out _).mono ?_
               rintro e w1 ⟨rfl, rfl⟩
               rw [hB.out]
               go_wp2_with fail
               go_roundg g
               case measure => omega
               case rel => exact ⟨k + 1, by omega, by go_num, by rw [hst.out], rfl⟩
             · have e2 : decide ((j : Int) < v) = false := by simp; omega
               have hst : Hid (indTo xs (k + 1) = v) := Hd (by rw [hs.out]; unfold stepI; rw [hx21.out, if_neg (by rintro ⟨_, h | h⟩ <;> omega)])
               go_wp2_with fail
               refine (HB.out _).mono ?_
               rintro e w1 ⟨rfl, rfl⟩
               rw [hB.out]
               go_wp2_with fail
               go_roundg g
               case measure => omega
               case rel => exact ⟨k + 1, by omega, by go_num, by rw [hst.out], rfl⟩
         · have hT := Hd (blank_more hlt H.out hb)
           have hB := Hd hb
           clear H hb
           go_wp2_with fail
           refine (HB.out _).mono ?_
           rintro e w1 ⟨rfl, rfl⟩
           rw [hB.out]
           go_wp2_with fail
           go_roundg g2
           case measure => omega
           case rel => exact ⟨j + 1, by omega, by go_num, rfl, Aside.intro hT.out, rfl⟩
open Go.Shelf Go.RowKit
def joinRen : Go.Shelf.Ren := ⟨fun | 156 => 288 | 165 => 303 | 166 => 61 | 169 => 62 | 240 => 139 | 241 => 308 | 276 => 203 | 277 => 310 | n => n, fun | 0 => 0 | 3 => 3 | 4 => 4 | 5 => 5 | 9 => 9 | 20 => 20 | 31 => 51 | 37 => 100 | 70 => 99 | 72 => 102 | 75 => 105 | 76 => 108 | 80 => 110 | 127 => 176 | 164 => 220 | n => n, fun | n => n⟩
theorem joinLays : Go.Proofs.Lays.n156 Tryz.prog joinRen := {
 mixed := by kernel_rfl
 f156 := Tryz.func288.trans (congrArg some (by kernel_rfl))
 f165 := Tryz.func303.trans (congrArg some (by kernel_rfl))
 f166 := Tryz.func61.trans (congrArg some (by kernel_rfl))
 f169 := Tryz.func62.trans (congrArg some (by kernel_rfl))
 f240 := Tryz.func139.trans (congrArg some (by kernel_rfl))
 f241 := Tryz.func308.trans (congrArg some (by kernel_rfl))
 f276 := Tryz.func203.trans (congrArg some (by kernel_rfl))
 f277 := Tryz.func310.trans (congrArg some (by kernel_rfl))
 t0 := Tryz.underlying0
 a0 := Tryz.isAgg0
 z0 := Tryz.sizeOf0
 v0 := Tryz.zeroValue0
 t3 := Tryz.underlying3
 a3 := Tryz.isAgg3
 z3 := Tryz.sizeOf3
 v3 := Tryz.zeroValue3
 t4 := Tryz.underlying4
 a4 := Tryz.isAgg4
 z4 := Tryz.sizeOf4
 v4 := Tryz.zeroValue4
 t9 := Tryz.underlying9
 a9 := Tryz.isAgg9
 z9 := Tryz.sizeOf9
 v9 := Tryz.zeroValue9
 t20 := Tryz.underlying20
 a20 := Tryz.isAgg20
 z20 := Tryz.sizeOf20
 v20 := Tryz.zeroValue20
 t31 := Tryz.underlying51
 a31 := Tryz.isAgg51
 z31 := Tryz.sizeOf51
 v31 := Tryz.zeroValue51
 t37 := Tryz.underlying100
 a37 := Tryz.isAgg100
 z37 := Tryz.sizeOf100
 v37 := Tryz.zeroValue100
 t70 := Tryz.underlying99
 a70 := Tryz.isAgg99
 z70 := Tryz.sizeOf99
 v70 := Tryz.zeroValue99
 t72 := Tryz.underlying102
 a72 := Tryz.isAgg102
 z72 := Tryz.sizeOf102
 v72 := Tryz.zeroValue102
 t75 := Tryz.underlying105
 a75 := Tryz.isAgg105
 z75 := Tryz.sizeOf105
 v75 := Tryz.zeroValue105
 t76 := Tryz.underlying108
 a76 := Tryz.isAgg108
 z76 := Tryz.sizeOf108
 v76 := Tryz.zeroValue108
 t127 := Tryz.underlying176
 a127 := Tryz.isAgg176
 z127 := Tryz.sizeOf176
 v127 := Tryz.zeroValue176
 t164 := Tryz.underlying220
 a164 := Tryz.isAgg220
 z164 := Tryz.sizeOf220
 v164 := Tryz.zeroValue220 }
theorem joinExtra : Builder.Extra Tryz.prog joinRen := {
 sizeBuilder := by kernel_rfl
 liesBuilder := by kernel_rfl
 t5 := Tryz.underlying5
 a5 := Tryz.isAgg5
 z5 := Tryz.sizeOf5
 v5 := Tryz.zeroValue5
 infoByte := by kernel_rfl
 cellsByte := by kernel_rfl
 sizeByte := by kernel_rfl
 neB5 := by decide }
theorem pjoin_many (bk o c : Nat) (xs : List ByteArray) (sep : ByteArray) (w : World) (hcells : ∀ (j : Nat) x, xs[j]? = some x → w.cell? ⟨bk, o + j, none⟩ = some (.string x)) (hbk : bk < w.heap.size) (hN : xs.length ≤ 140737488355328) (hcap : xs.length ≤ c) (hlen : (Lib.join (xs.map (·.data.toList)) sep.data.toList).length ≤ 140737488355328) :
  Calls Tryz.prog 288 #[.slice (some ⟨bk, o, none⟩) xs.length c, .string sep] w fun e w' => e = .returned (.string ⟨(Lib.join (xs.map (·.data.toList)) sep.data.toList).toArray⟩) ∧ Below w.heap.size w w' :=
 Any.strings_Join joinLays joinExtra bk o c xs sep w hcells hbk hN hcap hlen
theorem pjoin_none (a : Option Addr) (c : Nat) (sep : ByteArray) (w : World) :
  Calls Tryz.prog 288 #[.slice a 0 c, .string sep] w fun e w' => e = .returned (.string ⟨#[]⟩) ∧ w' = w :=
 Any.strings_Join_none joinLays joinExtra a c sep w
theorem linesB_bytes (l : List UInt8) : bytesL (linesB l) = linesL l := by
 unfold bytesL linesB
 rw [List.map_map]
 have : ((fun x : ByteArray => x.data.toList) ∘ fun x : List UInt8 => (⟨x.toArray⟩ : ByteArray)) = id := by funext x; simp
 rw [this, List.map_id]
theorem strs_some {w : World} {base n : Nat} {A : Option Addr} {cap : Nat} {xs : List Value} (h : w.ownsRow base 9 1 (.slice A n cap) n xs) (hn : 0 < n) : ∃ g, A = some ⟨g, 0, none⟩ ∧ base ≤ g ∧ g < w.heap.size ∧ n ≤ cap := by
 rcases h.2 with ⟨_, h0⟩ | ⟨g, c, cur, hv, hb, _, hnc, _⟩
 · omega
 · have hv' := hv
   injection hv' with h1 h2 h3
   subst h1
   exact ⟨g, rfl, hb, (h.lt g rfl).2, by omega⟩
theorem after_room {l t : List UInt8} (h : afterL l = some t) : (firstL l).length + 1 + t.length ≤ l.length := by
 have e : (firstL l).length + (l.dropWhile fun c => !eolB c).length = l.length := by
  unfold firstL
  rw [← List.length_append, List.takeWhile_append_dropWhile]
 have : t.length < (l.dropWhile fun c => !eolB c).length := by
  unfold afterL at h
  generalize l.dropWhile (fun c => !eolB c) = r at *
  split at h
  · cases h
  · split at h
    · split at h
      · split at h
        · cases h; simp only [List.length_cons]; omega
        · cases h; simp only [List.length_cons]; omega
      · cases h; simp
    · cases h; simp
 omega
theorem lines_room : ∀ (n : Nat) (l : List UInt8), l.length < n → (linesL l).length ≤ l.length + 1 ∧ (∀ x ∈ linesL l, x.length ≤ l.length) ∧ (joinTen (linesL l)).length ≤ l.length := by
 intro n
 induction n with
 | zero => intro l h; omega
 | succ n ih =>
   intro l hl
   have hf : (firstL l).length ≤ l.length := by
     unfold firstL
     have e : (l.takeWhile fun c => !eolB c).length + (l.dropWhile fun c => !eolB c).length = l.length := by rw [← List.length_append, List.takeWhile_append_dropWhile]
     omega
   rw [linesL_eq]
   cases ha : afterL l with
   | none =>
     refine ⟨by simp, fun x hx => ?_, by simpa [joinTen] using hf⟩
     simp only [List.mem_cons, List.not_mem_nil, or_false] at hx
     rw [hx]; exact hf
   | some t =>
     have hr := after_room ha
     obtain ⟨h1, h2, h3⟩ := ih t (by omega)
     refine ⟨by simp only [List.length_cons]; omega, fun x hx => ?_, ?_⟩
     · simp only [List.mem_cons] at hx
       rcases hx with hx | hx
       · rw [hx]; exact hf
       · have := h2 x hx; omega
     · show (joinTen (firstL l :: linesL t)).length ≤ _
       cases hlt : linesL t with
       | nil => exact absurd hlt (linesL_ne t)
       | cons y r =>
         rw [hlt] at h3
         show (firstL l ++ 10 :: joinTen (y :: r)).length ≤ _
         rw [List.length_append, List.length_cons]
         omega
def cutS (m : Nat) (x : ByteArray) : ByteArray := x.extract (min m x.size) x.size
def cutB (m k : Nat) (xs : List ByteArray) : List ByteArray := xs.mapIdx fun i x => if 1 ≤ i ∧ i < k then cutS m x else x
theorem cutB_get {m k j : Nat} {xs : List ByteArray} : (cutB m k xs)[j]? = (xs[j]?).map fun x => if 1 ≤ j ∧ j < k then cutS m x else x := by
 unfold cutB; rw [List.getElem?_mapIdx]
theorem cutB_start (m : Nat) (xs : List ByteArray) : cutB m 1 xs = xs := by
 apply List.ext_getElem?
 intro j
 rw [cutB_get]
 cases xs[j]? with
 | none => rfl
 | some x => simp only [Option.map_some]; rw [if_neg (by omega)]
theorem cutB_set {m k : Nat} {xs : List ByteArray} {x : ByteArray} (hk : 1 ≤ k) (hx : xs[k]? = some x) : (cutB m k xs).set k (cutS m x) = cutB m (k + 1) xs := by
 apply List.ext_getElem?
 intro j
 rw [List.getElem?_set, cutB_get, cutB_get]
 by_cases hj : k = j
 · subst hj
   rw [if_pos rfl, hx]
   have : k < (cutB m k xs).length := by
     have := (List.getElem?_eq_some_iff.1 hx).1
     unfold cutB; rw [List.length_mapIdx]; exact this
   rw [if_pos this]
   simp only [Option.map_some]
   rw [if_pos ⟨hk, by omega⟩]
 · rw [if_neg hj]
   cases xs[j]? with
   | none => rfl
   | some y =>
     simp only [Option.map_some]
     by_cases h : 1 ≤ j ∧ j < k
     · rw [if_pos h, if_pos ⟨h.1, by omega⟩]
     · rw [if_neg h, if_neg (by omega)]
theorem cutB_length (m k : Nat) (xs : List ByteArray) : (cutB m k xs).length = xs.length := by unfold cutB; simp
theorem cutS_bytes (m : Nat) (x : ByteArray) : (cutS m x).data.toList = x.data.toList.drop m := by
 unfold cutS
 rw [extract_list, List.take_of_length_le (by rw [List.length_drop, ← Lib.size_eq]; omega)]
 by_cases h : m ≤ x.size
 · rw [Nat.min_eq_left h]
 · rw [Nat.min_eq_right (by omega), List.drop_eq_nil_of_le (by rw [← Lib.size_eq]; omega), List.drop_eq_nil_of_le (by rw [← Lib.size_eq]; omega)]
theorem cutB_bytes (m : Nat) (xs : List ByteArray) : bytesL (cutB m xs.length xs) = cutL m (bytesL xs) := by
 apply List.ext_getElem?
 intro j
 unfold bytesL
 rw [List.getElem?_map, cutB_get]
 cases xs with
 | nil => simp [cutL]
 | cons y t =>
   cases j with
   | zero => simp [cutL]
   | succ j =>
     simp only [List.getElem?_cons_succ, List.map_cons, cutL, List.map_map, List.getElem?_map, List.length_cons, Option.map_map]
     cases h : t[j]? with
     | none => rfl
     | some z =>
       have := (List.getElem?_eq_some_iff.1 h).1
       simp only [Option.map_some, Function.comp]
       rw [if_pos (by omega), cutS_bytes]
theorem strs_of_own' {w : World} {base n : Nat} {A : Option Addr} {cap : Nat} {xs : List ByteArray} (h : w.ownsRow base 9 1 (.slice A n cap) n (xs.map Value.string)) : StrsAt w w.heap.size A n xs := by
 have hl : xs.length = n := by have := h.1; rw [List.length_map] at this; omega
 subst hl
 exact (strs_of_own h).2
theorem dropWhile_all (p : List UInt8 → Bool) : ∀ (a r : List (List UInt8)), a.all p = true → (a ++ r).dropWhile p = r.dropWhile p := by
 intro a r h
 induction a with
 | nil => rfl
 | cons x a ih =>
   rw [List.all_cons, Bool.and_eq_true] at h
   rw [List.cons_append, List.dropWhile_cons, h.1]
   simp only [if_true]
   exact ih h.2
theorem front_end {ls : List (List UInt8)} {f : Nat} (h : (ls.take f).all (fun l => !inkB l) = true) : ls.length ≤ f → frontL ls = [] := by
 intro hf
 rw [List.take_of_length_le hf] at h
 have := dropWhile_all (fun l => !inkB l) ls [] h
 rw [List.append_nil] at this
 exact this
theorem front_stop {ls : List (List UInt8)} {f : Nat} {x : List UInt8} (h : (ls.take f).all (fun l => !inkB l) = true) (hx : ls[f]? = some x) (hi : inkB x = true) : frontL ls = ls.drop f := by
 obtain ⟨hf, rfl⟩ := List.getElem?_eq_some_iff.1 hx
 unfold frontL
 conv => lhs; rw [← List.take_append_drop f ls]
 rw [dropWhile_all _ _ _ h, List.drop_eq_getElem_cons hf, List.dropWhile_cons]
 simp [hi]
theorem blank_next {ls : List (List UInt8)} {f : Nat} {x : List UInt8} (h : (ls.take f).all (fun l => !inkB l) = true) (hx : ls[f]? = some x) (hi : inkB x = false) : (ls.take (f + 1)).all (fun l => !inkB l) = true := by
 rw [List.take_add_one, hx, List.all_append, h]
 simp [hi]
theorem blank_back {ls : List (List UInt8)} {u : Nat} {x : List UInt8} (h : (ls.drop (u + 1)).all (fun l => !inkB l) = true) (hx : ls[u]? = some x) (hi : inkB x = false) : (ls.drop u).all (fun l => !inkB l) = true := by
 obtain ⟨hf, rfl⟩ := List.getElem?_eq_some_iff.1 hx
 rw [List.drop_eq_getElem_cons hf, List.all_cons, h]
 simp [hi]
theorem back_of {ls a b : List (List UInt8)} {f : Nat} (hF : frontL ls = ls.drop f) (he : ls.drop f = a ++ b) (hb : b.all (fun l => !inkB l) = true) (ha : a.reverse.dropWhile (fun l => !inkB l) = a.reverse) : trimL ls = a := by
 unfold trimL
 rw [hF, he, List.reverse_append]
 unfold frontL
 rw [dropWhile_all _ _ _ (by rw [List.all_reverse]; exact hb), ha, List.reverse_reverse]
theorem back_end {ls : List (List UInt8)} {f : Nat} (hF : frontL ls = ls.drop f) (h : (ls.drop f).all (fun l => !inkB l) = true) : trimL ls = (ls.drop f).take (f - f) := by
 rw [back_of (a := []) hF rfl h rfl]; simp
theorem back_stop {ls : List (List UInt8)} {f u : Nat} {x : List UInt8} (hF : frontL ls = ls.drop f) (hf : f ≤ u) (h : (ls.drop (u + 1)).all (fun l => !inkB l) = true) (hx : ls[u]? = some x) (hi : inkB x = true) : trimL ls = (ls.drop f).take (u + 1 - f) := by
 obtain ⟨hu, rfl⟩ := List.getElem?_eq_some_iff.1 hx
 refine back_of (b := ls.drop (u + 1)) hF ?_ h ?_
 · have := (List.take_append_drop (u + 1 - f) (ls.drop f)).symm
   rw [List.drop_drop, show f + (u + 1 - f) = u + 1 from by omega] at this
   exact this
 · rw [show u + 1 - f = (u - f) + 1 from by omega, List.take_add_one, List.getElem?_drop, show f + (u - f) = u from by omega, List.getElem?_eq_getElem hu]
   simp [hi]
def sumL : List (List UInt8) → Nat
 | [] => 0
 | x :: t => x.length + sumL t
theorem joinTen_len : ∀ ls : List (List UInt8), (joinTen ls).length + 1 = sumL ls + ls.length + (if ls = [] then 1 else 0) := by
 intro ls
 induction ls with
 | nil => rfl
 | cons x t ih =>
   cases t with
   | nil => simp [joinTen, sumL]
   | cons y t =>
     rw [if_neg (by simp)] at ih ⊢
     show (x ++ 10 :: joinTen (y :: t)).length + 1 = _
     rw [List.length_append, List.length_cons]
     show _ = x.length + sumL (y :: t) + ((y :: t).length + 1) + 0
     omega
theorem sumL_append (a b : List (List UInt8)) : sumL (a ++ b) = sumL a + sumL b := by
 induction a with
 | nil => simp [sumL]
 | cons x t ih => rw [List.cons_append]; simp only [sumL]; omega
theorem infix_sum {a b : List (List UInt8)} (h : a <:+: b) : sumL a + a.length ≤ sumL b + b.length := by
 obtain ⟨p, q, rfl⟩ := h
 rw [sumL_append, sumL_append, List.length_append, List.length_append]
 omega
theorem trim_infix (ls : List (List UInt8)) : trimL ls <:+: ls := by
 have h1 : trimL ls <+: frontL ls := by
  have := List.dropWhile_suffix (l := (frontL ls).reverse) (fun x => !inkB x)
  have h2 := List.reverse_prefix.2 this
  rw [List.reverse_reverse] at h2
  exact h2
 have h2 : frontL ls <:+ ls := List.dropWhile_suffix _
 exact h1.isInfix.trans h2.isInfix
theorem cut_sum (n : Nat) (ls : List (List UInt8)) : sumL (cutL n ls) ≤ sumL ls ∧ (cutL n ls).length = ls.length := by
 cases ls with
 | nil => exact ⟨Nat.le_refl _, rfl⟩
 | cons x t =>
   simp only [cutL, sumL, List.length_cons, List.length_map, and_true]
   have : sumL (t.map (List.drop n)) ≤ sumL t := by
    induction t with
    | nil => exact Nat.le_refl _
    | cons y t ih => simp only [List.map_cons, sumL, List.length_drop]; omega
   omega
theorem after_len {l t : List UInt8} (h : afterL l = some t) : (firstL l).length + 1 + t.length ≤ l.length := by
 have e : (firstL l).length + (l.dropWhile fun c => !eolB c).length = l.length := by
  unfold firstL
  rw [← List.length_append, List.takeWhile_append_dropWhile]
 have : t.length < (l.dropWhile fun c => !eolB c).length := by
  unfold afterL at h
  generalize l.dropWhile (fun c => !eolB c) = r at *
  split at h
  · cases h
  · split at h
    · split at h
      · split at h
        · cases h; simp only [List.length_cons]; omega
        · cases h; simp only [List.length_cons]; omega
      · cases h; simp
    · cases h; simp
 omega
theorem lines_sum : ∀ (n : Nat) (l : List UInt8), l.length < n → sumL (linesL l) + (linesL l).length ≤ l.length + 1 := by
 intro n
 induction n with
 | zero => intro l h; omega
 | succ n ih =>
   intro l hl
   have hf : (firstL l).length ≤ l.length := by
     unfold firstL
     have e : (l.takeWhile fun c => !eolB c).length + (l.dropWhile fun c => !eolB c).length = l.length := by rw [← List.length_append, List.takeWhile_append_dropWhile]
     omega
   rw [linesL_eq]
   cases ha : afterL l with
   | none => simp only [sumL, List.length_cons, List.length_nil]; omega
   | some t =>
     have hr := after_len ha
     have := ih t (by omega)
     simp only [sumL, List.length_cons]
     omega
theorem value_len (raw : List UInt8) : (valueL raw).length ≤ raw.length := by
 have h1 := lines_sum _ raw (Nat.lt_succ_self _)
 have h2 := cut_sum (max (indentL (linesL raw)) 0).toNat (linesL raw)
 have h3 := infix_sum (trim_infix (cutL (max (indentL (linesL raw)) 0).toNat (linesL raw)))
 have h4 := joinTen_len (shownL raw)
 unfold valueL
 by_cases hs : shownL raw = []
 · rw [hs]; simp [joinTen]
 · rw [if_neg hs] at h4
   have h3' : sumL (shownL raw) + (shownL raw).length ≤ sumL (cutL (max (indentL (linesL raw)) 0).toNat (linesL raw)) + (cutL (max (indentL (linesL raw)) 0).toNat (linesL raw)).length := h3
   omega
def gapL (n : Nat) : List UInt8 := List.replicate n 32
end Go.Proofs.YtpkmbhnikilihaaGreatDoor.Blk
