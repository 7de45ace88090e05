/- The document's own Possible. -/
import Derived.Test.YtcfdfgbobnocnaaGreatDoorLtLast
import Derived.Test.YtcfdfgbobnocnaaGreatDoorLtNamed
import Derived.Test.YtcfdfgbobnocnaaGreatDoorLtEls
import Derived.Test.YtcfdfgbobnocnaaGreatDoorWRight
import Derived.Test.YtcfdfgbobnocnaaGreatDoorLtM
namespace Go.Proofs.YtcfdfgbobnocnaaGreatDoor
open Go.RowKit

theorem spots_flat {α : Type} (f : α → List PlT) : ∀ xs : List α, spotsOf (xs.flatMap f) = xs.flatMap fun x => spotsOf (f x)
  | [] => rfl
  | x :: xs => by
    rw [List.flatMap_cons, List.flatMap_cons, ← spots_flat f xs]
    unfold spotsOf
    rw [List.filter_append]
def varsP (D : List DefnT) (p : PlT) : List ByteArray := (spotsOf (allP D p)).map (·.v.ss)
theorem map_flat {α β γ : Type} (f : α → List β) (g : β → γ) : ∀ xs : List α, (xs.flatMap f).map g = xs.flatMap fun x => (f x).map g
  | [] => rfl
  | x :: xs => by rw [List.flatMap_cons, List.flatMap_cons, List.map_append, map_flat f g xs]
theorem varsP_eq (D : List DefnT) (p : PlT) : varsP D p = (if (p.v.kd == 8) = true then [p.v.ss] else []) ++ (withinL D p).flatMap (varsP D) := by
  have e : spotsOf (p :: (withinL D p).flatMap (allP D)) = (if (p.v.kd == 8) = true then [p] else []) ++ spotsOf ((withinL D p).flatMap (allP D)) := by
    unfold spotsOf
    rw [List.filter_cons]
    split <;> rfl
  unfold varsP
  rw [allP_eq, e, spots_flat, List.map_append, map_flat]
  congr 1
  split <;> rfl
theorem varsP_8 {D : List DefnT} {p : PlT} (h : p.v.kd = 8) : varsP D p = p.v.ss :: (withinL D p).flatMap (varsP D) := by
  rw [varsP_eq, if_pos (by rw [h]; rfl)]
  rfl
theorem varsP_n {D : List DefnT} {p : PlT} (h : p.v.kd ≠ 8) : varsP D p = (withinL D p).flatMap (varsP D) := by
  rw [varsP_eq, if_neg (by simpa using h)]
  rfl
theorem allL_list : ∀ l : VL, allL l = l.list.flatMap allV
  | .nil => rfl
  | .cons v t => by rw [allL, VL.list, List.flatMap_cons, allL_list t]
theorem allM_list : ∀ m : VM, allM m = m.list.flatMap fun y => allV y.2
  | .nil => rfl
  | .cons n v t => by rw [allM, VM.list, List.flatMap_cons, allM_list t]
theorem fitM_mem : ∀ {m : VM}, fitM goodB m = true → ∀ y, y ∈ m.list → fitV goodB y.2 = true
  | .nil, _, y, h => by simp [VM.list] at h
  | .cons n v t, hm, y, h => by
    rw [fitM, Bool.and_eq_true, Bool.and_eq_true] at hm
    rw [VM.list] at h
    rcases List.mem_cons.1 h with rfl | h
    · exact hm.1.2
    · exact fitM_mem hm.2 y h
theorem flat_congr {α β : Type} {f g : α → List β} : ∀ {xs : List α}, (∀ x, x ∈ xs → f x = g x) → xs.flatMap f = xs.flatMap g
  | [], _ => rfl
  | x :: xs, h => by rw [List.flatMap_cons, List.flatMap_cons, h x (by simp), flat_congr fun y hy => h y (by simp [hy])]
theorem mems_all {ps : List VarT} : ∀ {ms : List (ByteArray × VT)}, knownB ps ms = true → memsL ps ms = ms.map fun x => ⟨(paramD ps x.1).1.tn, (paramD ps x.1).1.tl, (paramD ps x.1).1.tm, (paramD ps x.1).1.has, x.2⟩
  | [], _ => rfl
  | x :: t, h => by
    unfold knownB at h
    rw [List.all_cons, Bool.and_eq_true] at h
    have := mems_all (ps := ps) (ms := t) h.2
    unfold memsL at this ⊢
    rw [List.flatMap_cons, this, if_pos h.1, List.map_cons, List.singleton_append]
theorem named_map {D : List DefnT} {n : ByteArray} {v : VT} (h : namedB D n v = true) (h7 : v.kd = 7) : knownB (findD D n).1.params v.ms.list = true := by
  unfold namedB at h
  rw [h7] at h
  repeat' split at h
  all_goals first | (exfalso; simp at h; done) | skip
  simp only [Bool.and_eq_true] at h
  exact h.2.2.1
theorem named_list {D : List DefnT} {n : ByteArray} {v : VT} (h6 : v.kd = 6) : namedB D n v = false := by
  unfold namedB
  rw [h6]
  repeat' split
  all_goals simp
abbrev fitP (D : List DefnT) (x : PlT) : Bool := fitsB D x.tn x.tl x.tm x.v
theorem vars_places (D : List DefnT) : ∀ (N : Nat) (p : PlT), msr p ≤ N → fitV goodB p.v = true → (allP D p).all (fitP D) = true → varsP D p = allV p.v
  | N, p, hN, hg, hf => by
    have IH : ∀ x, x ∈ withinL D p → fitV goodB x.v = true → varsP D x = allV x.v := fun x hx hgx => by
      have h1 := within_msr hx
      rw [allP_eq, List.all_cons, Bool.and_eq_true, all_flat] at hf
      have h2 := List.all_eq_true.1 hf.2 x hx
      cases N with
      | zero => omega
      | succ N => exact vars_places D N x (by omega) hgx h2
    have hf0 : fitP D p = true := by
      rw [allP_eq, List.all_cons, Bool.and_eq_true] at hf
      exact hf.1
    clear hf
    obtain ⟨tn, tl, tm, hs, k, n, s, l, m⟩ := p
    by_cases h8 : k = 8
    · subst h8
      rw [varsP_8 (p := ⟨tn, tl, tm, hs, .mk 8 n s l m⟩) rfl, within_none (Or.inl rfl)]
      show _ = allV (.mk 8 n s l m)
      rw [allV, if_pos rfl]
      rfl
    rw [varsP_n (p := ⟨tn, tl, tm, hs, .mk k n s l m⟩) h8]
    show _ = allV (.mk k n s l m)
    have hg : fitV goodB (.mk k n s l m) = true := hg
    rw [allV, if_neg h8]
    by_cases h0 : k = 0
    · subst h0
      rw [within_none (Or.inr rfl)]
      rfl
    have hgv := hg
    rw [fitV] at hg
    simp only [Bool.and_eq_true] at hg
    obtain ⟨⟨hs0, hgl⟩, hgm⟩ := hg
    have hf0 : fitsB D tn tl tm (.mk k n s l m) = true := hf0
    have hr : rightT tn.data.toList tl tm = true := by
      cases hr : rightT tn.data.toList tl tm
      · unfold fitsB at hf0
        rw [hr] at hf0
        cases hf0
      · rfl
    by_cases hi : itemB tn tl tm = true
    · by_cases h6 : k = 6
      · subst h6
        have hw : withinL D ⟨tn, tl, tm, hs, .mk 6 n s l m⟩ = elemsL tn (tl - 1) (tm / 2) l.list := by
          exact within_els hi rfl
        rw [hw] at IH ⊢
        rw [if_pos rfl, allL_list]
        unfold elemsL at IH ⊢
        rw [List.flatMap_map]
        refine flat_congr fun x hx => ?_
        rw [fitL_all] at hgl
        exact IH _ (List.mem_map.2 ⟨x, hx, rfl⟩) (List.all_eq_true.1 hgl x hx)
      · have hw : withinL D ⟨tn, tl, tm, hs, .mk k n s l m⟩ = [⟨tn, tl - 1, tm / 2, false, .mk k n s l m⟩] := by
          exact within_one (by show ¬ (k = 8 ∨ k = 0); omega) hi h6
        have := IH ⟨tn, tl - 1, tm / 2, false, .mk k n s l m⟩ (by rw [hw]; simp) hgv
        rw [hw, List.flatMap_cons, List.flatMap_nil, List.append_nil, this]
        show allV (.mk k n s l m) = _
        rw [allV, if_neg h8]
    · rw [fits_flat (v := .mk k n s l m) hr hi h8 h0] at hf0
      by_cases h7 : k = 7
      · subst h7
        have hk := named_map hf0 rfl
        have hw : withinL D ⟨tn, tl, tm, hs, .mk 7 n s l m⟩ = memsL (findD D tn).1.params m.list := by
          exact within_map hi rfl
        have hk : knownB (findD D tn).1.params m.list = true := hk
        rw [hw, mems_all hk] at IH ⊢
        rw [if_neg (by decide), if_pos rfl, allM_list, List.flatMap_map]
        refine flat_congr fun x hx => ?_
        exact IH _ (List.mem_map.2 ⟨x, hx, rfl⟩) (fitM_mem hgm x hx)
      · by_cases h6 : k = 6
        · rw [named_list (v := .mk k n s l m) h6] at hf0
          cases hf0
        · rw [within_leaf (v := .mk k n s l m) hi h7, if_neg h6, if_neg h7]
          rfl
theorem right_vars {D : List DefnT} {p : PlT} (h : rightL D p = true) : varsP D p = allV p.v := by
  unfold rightL at h
  rw [Bool.and_eq_true] at h
  exact vars_places D _ p (Nat.le_refl _) h.1 h.2
end Go.Proofs.YtcfdfgbobnocnaaGreatDoor
namespace Go.Proofs.YtcfdfgbobnocnaaGreatDoor
open Go.RowKit

def mapG (D : List DefnT) (x : PlT) : Bool := itemB x.tn x.tl x.tm || (!(x.v.kd == 7) || knownB (findD D x.tn).1.params x.v.ms.list)
def G (D : List DefnT) (p : PlT) : Prop := (allP D p).all (mapG D) = true
theorem G_iff {D : List DefnT} {p : PlT} : G D p ↔ mapG D p = true ∧ ∀ x, x ∈ withinL D p → G D x := by
  unfold G
  rw [allP_eq, List.all_cons, Bool.and_eq_true, all_flat, List.all_eq_true]
theorem G_leaf {D : List DefnT} {n : ByteArray} {l m : Int} {hs : Bool} {v : VT} (hi : ¬ itemB n l m = true) (h7 : v.kd ≠ 7) : G D ⟨n, l, m, hs, v⟩ := by
  refine G_iff.2 ⟨?_, fun x hx => ?_⟩
  · unfold mapG
    have : (v.kd == 7) = false := by simpa using h7
    dsimp only
    rw [this]
    simp
  · rw [within_leaf hi h7] at hx
    cases hx
theorem G_none {D : List DefnT} {n : ByteArray} {l m : Int} {hs : Bool} {v : VT} (h : v.kd = 8 ∨ v.kd = 0) : G D ⟨n, l, m, hs, v⟩ := by
  refine G_iff.2 ⟨?_, fun x hx => ?_⟩
  · unfold mapG
    have : (v.kd == 7) = false := by rcases h with h | h <;> rw [h] <;> rfl
    dsimp only
    rw [this]
    simp
  · rw [within_none h] at hx
    cases hx
theorem G_one {D : List DefnT} {n : ByteArray} {l m : Int} {hs : Bool} {v : VT} (a : ¬ (v.kd = 8 ∨ v.kd = 0)) (hi : itemB n l m = true) (h6 : v.kd ≠ 6) (h : G D ⟨n, l - 1, m / 2, false, v⟩) : G D ⟨n, l, m, hs, v⟩ := by
  refine G_iff.2 ⟨?_, fun x hx => ?_⟩
  · unfold mapG
    dsimp only
    rw [hi]
    rfl
  · rw [within_one a hi h6] at hx
    obtain rfl := List.mem_singleton.1 hx
    exact h
theorem G_els {D : List DefnT} {n : ByteArray} {l m : Int} {hs : Bool} {v : VT} (hi : itemB n l m = true) (h6 : v.kd = 6) (h : ∀ x, x ∈ v.ls.list → G D ⟨n, l - 1, m / 2, false, x⟩) : G D ⟨n, l, m, hs, v⟩ := by
  refine G_iff.2 ⟨?_, fun x hx => ?_⟩
  · unfold mapG
    dsimp only
    rw [hi]
    rfl
  · rw [within_els hi h6] at hx
    obtain ⟨y, hy, rfl⟩ := List.mem_map.1 hx
    exact h y hy
/-- The place of a member. -/
def memP (ps : List VarT) (y : ByteArray × VT) : PlT := ⟨(paramD ps y.1).1.tn, (paramD ps y.1).1.tl, (paramD ps y.1).1.tm, (paramD ps y.1).1.has, y.2⟩
theorem G_map {D : List DefnT} {n : ByteArray} {l m : Int} {hs : Bool} {v : VT} (hi : ¬ itemB n l m = true) (h7 : v.kd = 7) (h : ∀ y, y ∈ v.ms.list → (paramD (findD D n).1.params y.1).2 = true ∧ G D (memP (findD D n).1.params y)) : G D ⟨n, l, m, hs, v⟩ := by
  have hk : knownB (findD D n).1.params v.ms.list = true := by
    unfold knownB
    exact List.all_eq_true.2 fun y hy => (h y hy).1
  refine G_iff.2 ⟨?_, fun x hx => ?_⟩
  · unfold mapG
    dsimp only
    rw [hk]
    simp
  · rw [within_map hi h7, mems_all hk] at hx
    obtain ⟨y, hy, rfl⟩ := List.mem_map.1 hx
    exact (h y hy).2
theorem G_has {D : List DefnT} {n : ByteArray} {l m : Int} {hs hs' : Bool} {v : VT} (h : G D ⟨n, l, m, hs, v⟩) : G D ⟨n, l, m, hs', v⟩ := by
  have h1 := G_iff.1 h
  exact G_iff.2 ⟨h1.1, h1.2⟩
/-- A place's measure does not lean on whether there is a default. -/
theorem msr_has {n : ByteArray} {l m : Int} {hs hs' : Bool} {v : VT} : msr ⟨n, l, m, hs, v⟩ = msr ⟨n, l, m, hs', v⟩ := rfl
theorem msr_item {n : ByteArray} {l m : Int} {hs : Bool} {v : VT} (hi : itemB n l m = true) : msr ⟨n, l - 1, m / 2, false, v⟩ < msr ⟨n, l, m, hs, v⟩ := by
  have := item_lists hi
  unfold msr
  dsimp only
  rw [if_pos hi]
  split <;> omega
theorem msr_el {n n' : ByteArray} {l m l' m' : Int} {hs hs' : Bool} {v x : VT} (h : x ∈ v.ls.list) : msr ⟨n', l', m', hs', x⟩ < msr ⟨n, l, m, hs, v⟩ := by
  obtain ⟨k, nn, s, ls, ms⟩ := v
  have h1 : szV x ≤ szL ls := szL_mem h
  have h2 : szV (.mk k nn s ls ms) = 1 + szL ls + szM ms := by rw [szV]
  have h3 := msr_lt (p := ⟨n', l', m', hs', x⟩) (k := szV (.mk k nn s ls ms)) (by show szV x < _; omega)
  have h4 : szV (.mk k nn s ls ms) * 8 ≤ msr ⟨n, l, m, hs, .mk k nn s ls ms⟩ := msr_ge ⟨n, l, m, hs, .mk k nn s ls ms⟩
  omega
theorem msr_mem {n n' : ByteArray} {l m l' m' : Int} {hs hs' : Bool} {v : VT} {y : ByteArray × VT} (h : y ∈ v.ms.list) : msr ⟨n', l', m', hs', y.2⟩ < msr ⟨n, l, m, hs, v⟩ := by
  obtain ⟨k, nn, s, ls, ms⟩ := v
  have h1 : szV y.2 ≤ szM ms := szM_mem h
  have h2 : szV (.mk k nn s ls ms) = 1 + szL ls + szM ms := by rw [szV]
  have h3 := msr_lt (p := ⟨n', l', m', hs', y.2⟩) (k := szV (.mk k nn s ls ms)) (by show szV y.2 < _; omega)
  have h4 : szV (.mk k nn s ls ms) * 8 ≤ msr ⟨n, l, m, hs, .mk k nn s ls ms⟩ := msr_ge ⟨n, l, m, hs, .mk k nn s ls ms⟩
  omega
end Go.Proofs.YtcfdfgbobnocnaaGreatDoor
namespace Go.Proofs.YtcfdfgbobnocnaaGreatDoor
open Go.RowKit

set_option maxRecDepth 100000 in
set_option maxHeartbeats 2000000 in
theorem ris_any (n : ByteArray) (l m : Int) (w : World) (hn : n.size ≤ 9223372036854775807) : Calls Tryz.prog 60 #[.agg #[.string n, .int .i64 l, .int .i64 m]] w fun e w' => e = .returned (.bool (isB n.data.toList l m)) ∧ Below w.heap.size w w' := by
  have HR := fun w => Lib.hid (rtright_any n l m w hn)
  cases hr : rightT n.data.toList l m
  · have hv : Hid (isB n.data.toList l m = false) := Lib.hid (by simp [isB, hr])
    rw [hr] at HR
    clear hr
    go_enter Tryz.func60, Tryz.ntmps60
    go_wp2_with fail
    refine (HR _).out.mono ?_
    rintro e w2 ⟨rfl, hb2⟩
    obtain ⟨b0, HB⟩ := one_new hb2
    have HB' := Lib.hid HB
    clear b0 HB hb2 HR
    go_wp2_with fail
    go_ret
    exact ⟨ret_bb hv.out.symm, HB'.out⟩
  · obtain ⟨s1, s2, s3, s4⟩ := right_small hr
    have ha := and_one s3 s4
    rw [hr] at HR
    have hv : Hid (isB n.data.toList l m = (m % 2 == 1)) := Lib.hid (by simp [isB, hr])
    obtain ⟨r, hR⟩ : ∃ r, m % 2 = r := ⟨_, rfl⟩
    rw [hR] at ha hv
    have hr2 : r = 0 ∨ r = 1 := by omega
    clear hr hR
    rcases hr2 with rfl | rfl
    all_goals
      go_enter Tryz.func60, Tryz.ntmps60
      go_wp2_with fail
      refine (HR _).out.mono ?_
      rintro e w2 ⟨rfl, hb2⟩
      obtain ⟨b0, HB⟩ := one_new hb2
      obtain ⟨a0, a1, a2, g0, g1, g2⟩ := ty_cells b0
      have HB' := Lib.hid HB
      clear b0 HB hb2 HR
      go_wp2_with fail
      go_ret
      exact ⟨ret_bb hv.out.symm, HB'.out⟩
set_option maxRecDepth 100000 in
set_option maxHeartbeats 8000000 in
theorem rparam_any (l : List VarT) (A : Option Addr) (c : Nat) (n : ByteArray) (w : World) (P : Nat → Prop) (hP : ∀ b, P b → b < w.heap.size) (hl : l.length ≤ 9223372036854775807) (_hn : n.size ≤ 9223372036854775807) (hR : RowT w P (rowOf encVar l) A) :
    Calls Tryz.prog 31 #[.slice A l.length c, .string n] w (ParO (paramD l n) w) := by
  have HR := Lib.hid hR
  have HP := Lib.hid hP
  have X0 := Lib.hid (show PRs w (w.alloc (.cells #[.string ⟨#[]⟩, .string ⟨#[]⟩, .int .i64 0, .int .i64 0, .bool false, .int .i64 0, .int .i64 0, .string ⟨#[]⟩, .slice none 0 0, .slice none 0 0] 69)) from ⟨dbelow_new _ _, heap_alloc_new _ _⟩)
  clear hR hP
  go_enter Tryz.func31, Tryz.ntmps31
  go_wp2_with fail
  go_loopg [6] l.length (fun g i wx => ∃ q : Nat, q + g = l.length ∧ i = .int .i64 q ∧ paramD (l.drop q) n = paramD l n ∧ PRs w wx)
  case atStart => exact ⟨0, by omega, rfl, rfl, X0.out⟩
  case round =>
    obtain ⟨q, hq, rfl, he, hX⟩ := hrel
    have HE := Lib.hid he
    have HX := Lib.hid hX
    clear he hX X0
    obtain ⟨_, u0, u1, u2, u3, u4, u5, u6, u7, u8, u9⟩ := ten_cells HX.out.res
    cases gk with
    | zero =>
      obtain rfl : q = l.length := by omega
      go_wp2_with fail
      refine ret_p2 rfl rfl rfl (ten_set HX.out.res) ?_
      have e := HE.out
      rw [List.drop_length, paramD] at e
      rw [← e]
      exact ⟨_, _, _, _, rfl, ten_low (b := w.heap.size) HX.out.low (Nat.le_refl _)⟩
    | succ g =>
      have hqn : q < l.length := by omega
      have hqn' : (q : Int) < (l.length : Int) := by omega
      obtain ⟨x, hx⟩ : ∃ x, l[q]? = some x := ⟨_, List.getElem?_eq_getElem hqn⟩
      obtain ⟨b, p, A3, k3, A4, k4, rfl, hb, ⟨g0, g1, g2, g3, g4, g5, g6, g7, g8, g9⟩, hs1, hs2⟩ := var_at (RowT.keep (P' := P) (fun b hb => ⟨hb, HX.out.low.block b (HP.out b hb)⟩) _ _ HR.out) hx
      have hbl : b < wr.heap.size := Nat.lt_of_lt_of_le (HP.out b hb) HX.out.low.size
      have hst := HE.out
      rw [paramD_at hx] at hst
      obtain ⟨tst, ht⟩ : ∃ t, (x.name.toList == n.toList) = t := ⟨_, rfl⟩
      rw [ht] at hst
      have HST := Lib.hid hst
      clear hx hst hb
      cases tst with
      | true =>
        go_wp2_with fail
        refine ret_p2 rfl rfl rfl (ten_set HX.out.res) ?_
        have e := HST.out
        rw [if_pos (by simp)] at e
        rw [← e]
        exact ⟨_, _, _, _, rfl, ten_low (b := w.heap.size) HX.out.low (Nat.le_refl _)⟩
      | false =>
        go_wp2_with fail
        go_roundg g
        case measure => omega
        case rel => exact ⟨q + 1, by omega, by go_num, by have e := HST.out; rw [if_neg (by simp)] at e; exact e, HX.out⟩
end Go.Proofs.YtcfdfgbobnocnaaGreatDoor
namespace Go.Proofs.YtcfdfgbobnocnaaGreatDoor
open Go.RowKit

set_option maxRecDepth 100000 in
theorem rhas_any (A : Option Addr) (n c : Nat) (xs : List ByteArray) (s : ByteArray) (w : World) (hn : n ≤ 9223372036854775807) (ha : Blk.StrsAt w w.heap.size A n xs) :
    Calls Tryz.prog 15 #[.slice A n c, .string s] w fun e w' => e = .returned (.bool (hasN xs s)) ∧ Below w.heap.size w w' := by
  have HA := Lib.hid ha
  clear ha
  go_enter Tryz.func15, Tryz.ntmps15
  go_wp2_with fail
  go_loopg [5] n (fun g i wx => ∃ k : Nat, k + g = n ∧ i = .int .i64 k ∧ (∃ m, w.drewN m = wx) ∧ Aside (hasN (xs.take k) s = false))
  case atStart => exact ⟨0, by omega, rfl, ⟨0, rfl⟩, Blk.Aside.intro (by rw [List.take_zero]; rfl)⟩
  case round =>
    obtain ⟨k, hk, rfl, ⟨m, rfl⟩, H⟩ := hrel
    cases gk with
    | zero =>
      obtain rfl : k = n := by omega
      have hd : Hid (hasN xs s = false) := Lib.hid (by
        have h := H.out
        rwa [List.take_of_length_le (by rw [HA.out.1]; omega)] at h)
      clear H
      go_wp2_with fail
      go_ret
      exact ⟨Blk.ret_bool hd.out.symm, Blk.below_draws (Below.refl _ _) m⟩
    | succ g =>
      have hlt : k < n := by omega
      have hlt' : (k : Int) < (n : Int) := by omega
      obtain ⟨x, hx⟩ : ∃ x, xs[k]? = some x := ⟨_, List.getElem?_eq_getElem (by rw [HA.out.1]; omega)⟩
      obtain ⟨b1, o1, rfl, hl1, c1⟩ := HA.out.2 k x hx
      have HX := Lib.hid hx
      clear hx
      by_cases hxy : x = s
      · subst hxy
        have e1' : (x.toList == x.toList) = true := by simp
        have hT : Hid (hasN xs x = true) := Lib.hid (hasN_iff.2 (List.mem_of_getElem? HX.out))
        clear H
        go_wp2_with fail
        go_ret
        exact ⟨Blk.ret_bool hT.out.symm, Blk.below_draws (Below.refl _ _) _⟩
      · have hne : x.toList ≠ s.toList := fun h => hxy (by
          rw [Lib.toList_data, Lib.toList_data] at h
          exact ByteArray.ext (Array.toList_inj.1 h))
        have e1' : (x.toList == s.toList) = false := by simpa using hne
        clear hne
        have hT := Lib.hid (hasN_take H.out HX.out hxy)
        clear H hxy
        go_wp2_with fail
        go_roundg g
        case measure => omega
        case rel => exact ⟨k + 1, by omega, by go_num, ⟨_, rfl⟩, Blk.Aside.intro hT.out⟩
set_option maxRecDepth 100000 in
theorem rscalar_any (n : ByteArray) (w : World) : Calls Tryz.prog 47 #[.string n] w fun e w' => e = .returned (.bool (scalarB n)) ∧ Below w.heap.size w w' := by
  unfold scalarB
  obtain ⟨x0, h0⟩ : ∃ x, (n.toList == [73, 110, 116]) = x := ⟨_, rfl⟩
  obtain ⟨x1, h1⟩ : ∃ x, (n.toList == [83, 116, 114, 105, 110, 103]) = x := ⟨_, rfl⟩
  obtain ⟨x2, h2⟩ : ∃ x, (n.toList == [66, 111, 111, 108, 101, 97, 110]) = x := ⟨_, rfl⟩
  obtain ⟨x3, h3⟩ : ∃ x, (n.toList == [73, 68]) = x := ⟨_, rfl⟩
  have HE : Hid ((n.toList == [73, 110, 116] || n.toList == [83, 116, 114, 105, 110, 103] || n.toList == [66, 111, 111, 108, 101, 97, 110] || n.toList == [73, 68]) = (x0 || x1 || x2 || x3)) := Lib.hid (by rw [h0, h1, h2, h3])
  rw [HE.out]
  clear HE
  cases x0 <;> cases x1 <;> cases x2 <;> cases x3
  all_goals
    go_enter Tryz.func47, Tryz.ntmps47
    go_wp2_with fail
    go_ret
    exact ⟨rfl, Below.refl _ _⟩
set_option maxRecDepth 100000 in
set_option maxHeartbeats 4000000 in
theorem rfind_any (S : SchT) (n : ByteArray) (c0 c1 c2 : Value) (w : World) (B : Nat) (hB : B ≤ w.heap.size) (hn : n.size ≤ 9223372036854775807) (hS : TS w (fun b => b < B) (encSch S) [c0, c1, c2]) :
    Calls Tryz.prog 30 #[.agg #[c0, c1, c2], .string n] w (FoundD (findD S.defs n) B w) := by
  obtain ⟨A, k, e, hl, hR⟩ := sch_cells hS
  injection e with e0 e
  injection e with e1 e
  injection e with e2 e
  subst e0 e1 e2
  have HB0 := Lib.hid hB
  have HR := Lib.hid hR
  have HN := Lib.hid hn
  clear hB hS hR e
  have X0 := Lib.hid (FR.start w (.slice A S.defs.length k) (.string S.query) (.string S.mutation) (.cells #[.int .i64 0, .string ⟨#[]⟩, .slice none 0 0, .slice none 0 0, .slice none 0 0, .slice none 0 0] 65))
  have SC := Lib.hid (fun (wx : World) => rscalar_any n wx)
  have HQ : Hid (findD S.defs n = if scalarB n = true then (⟨0, n, [], [], [], []⟩, true) else findL S.defs n) := Lib.hid rfl
  generalize findD S.defs n = Q at HQ ⊢
  obtain ⟨q, mu, l, el⟩ : ∃ q mu l, S = ⟨l, q, mu⟩ := ⟨S.query, S.mutation, S.defs, rfl⟩
  subst el
  go_enter Tryz.func30, Tryz.ntmps30
  go_wp2_with fail
  refine (SC.out _).mono ?_
  rintro e w1 ⟨rfl, hb1⟩
  have X1 := Lib.hid (X0.out.next hb1)
  clear hb1 X0 SC
  cases hs : scalarB n with
  | true =>
    have hQ : Q = (⟨0, n, [], [], [], []⟩, true) := HQ.out.trans (by rw [hs, if_pos rfl])
    obtain ⟨⟨z0, z1, z2, z3, z4, z5⟩, v0, v1, v2, v3, v4, v5⟩ := six_cells X1.out.res
    go_wp2_with fail
    refine ret_d2 rfl rfl rfl (six_set X1.out.res) ?_
    subst hQ
    exact ⟨_, _, _, _, _, _, rfl, defn_none _ _ HN.out, six_low (b := w.heap.size + 1) X1.out.low (Nat.le_succ _)⟩
  | false =>
    have HQ2 : Hid (Q = findL l n) := Lib.hid (HQ.out.trans (by rw [hs, if_neg (by decide)]))
    clear HQ hs
    go_wp2_with fail
    go_loopg [6] l.length (fun g i wx => ∃ q' : Nat, q' + g = l.length ∧ i = .int .i64 q' ∧ Aside (findL (l.drop q') n = findL l n) ∧ Aside (FR w (.slice A l.length k) (.string q) (.string mu) (.cells #[.int .i64 0, .string ⟨#[]⟩, .slice none 0 0, .slice none 0 0, .slice none 0 0, .slice none 0 0] 65) wx))
    case atStart => exact ⟨0, by omega, rfl, Blk.Aside.intro (by rw [List.drop_zero]), Blk.Aside.intro X1.out⟩
    case round =>
      obtain ⟨q', hq, rfl, HA, HX⟩ := hrel
      have X2 := Lib.hid HX.out
      obtain ⟨x0, x1, x2⟩ := three_cells X2.out.box
      clear HX
      cases gk with
      | zero =>
        obtain rfl : q' = l.length := by omega
        have hQ : Q = (zeroD, false) := HQ2.out.trans (by rw [← HA.out, List.drop_length]; rfl)
        obtain ⟨⟨z0, z1, z2, z3, z4, z5⟩, v0, v1, v2, v3, v4, v5⟩ := six_cells X2.out.res
        clear HA
        go_wp2_with fail
        refine ret_d2 rfl rfl rfl (six_set X2.out.res) ?_
        subst hQ
        exact ⟨_, _, _, _, _, _, rfl, defn_none _ _ (by decide), six_low (b := w.heap.size + 1) X2.out.low (Nat.le_succ _)⟩
      | succ g =>
        have hqn : q' < l.length := by omega
        have hqn' : (q' : Int) < (l.length : Int) := by omega
        obtain ⟨d, hd⟩ : ∃ x, l[q']? = some x := ⟨_, List.getElem?_eq_getElem hqn⟩
        obtain ⟨b, p, d0, d1, d2, d3, d4, d5, rfl, hlt, ⟨g0, g1, g2, g3, g4, g5⟩, hT⟩ := defn_at (RowT.below (X2.out.low.mono HB0.out) HR.out) hd
        have HT := Lib.hid hT
        obtain ⟨Af, kf, Ax, kx, Ap, kp, Am, km, e, _⟩ := defn_cells hT
        simp only [List.cons.injEq, and_true] at e
        obtain ⟨rfl, rfl, rfl, rfl, rfl, rfl⟩ := e
        have hN := findL_at (n := n) hd
        have hlt' : b < wr.heap.size := Nat.lt_of_lt_of_le hlt (Nat.le_trans HB0.out X2.out.low.size)
        have hne : ¬ b = w.heap.size + 1 := by have := HB0.out; omega
        have hne2 : ¬ w.heap.size + 1 = b := by have := HB0.out; omega
        clear hT hd hlt
        cases e : (d.name.toList == n.toList) with
        | true =>
          have hQ : Q = (d, true) := HQ2.out.trans (by rw [← HA.out, hN, if_pos e])
          have HQ3 := Lib.hid hQ
          obtain ⟨⟨z0, z1, z2, z3, z4, z5⟩, v0, v1, v2, v3, v4, v5⟩ := six_cells X2.out.res
          clear HA hN hQ
          go_wp2_with fail
          refine ret_d2 rfl rfl rfl (six_set X2.out.res) ?_
          have hQ := HQ3.out
          subst hQ
          exact ⟨_, _, _, _, _, _, rfl, TS.low (B := B) (six_low (b := w.heap.size + 1) (Below.refl _ _) (Nat.le_succ_of_le HB0.out)) HT.out, six_low (b := w.heap.size + 1) X2.out.low (Nat.le_succ _)⟩
        | false =>
          have hG : Hid (findL (l.drop (q' + 1)) n = findL l n) := Lib.hid (by rw [← HA.out, hN, if_neg (by rw [e]; decide)])
          clear HA hN
          go_wp2_with fail
          go_roundg g
          case measure => omega
          case rel => exact ⟨q' + 1, by omega, by go_num, Blk.Aside.intro hG.out, Blk.Aside.intro X2.out⟩
end Go.Proofs.YtcfdfgbobnocnaaGreatDoor
namespace Go.Proofs.YtcfdfgbobnocnaaGreatDoor
open Go.RowKit

theorem has3 (k a b c : Int) : (k == a || (k == b || k == c)) = hasI [a, b, c] k := by
  unfold hasI
  rw [Bool.eq_iff_iff]
  simp
  constructor
  · rintro (h | h | h) <;> simp [h]
  · rintro (h | h | h) <;> simp [h]
theorem leaf_eq {l : List DefnT} {n : ByteArray} : isD l n [0, 4, 4] = leafD l n := by
  unfold leafD isD hasI
  simp
theorem obj_eq {S : SchT} {n : ByteArray} : isD S.defs n [1, 1, 1] = objB S n := by
  unfold objB isD hasI
  simp
end Go.Proofs.YtcfdfgbobnocnaaGreatDoor
namespace Go.Proofs.YtcfdfgbobnocnaaGreatDoor
open Go.RowKit

theorem once_bears {l : List DefnT} {q : Nat} {d : DefnT} {f : ByteArray} (h : l[q]? = some d) : onceL (bearersL (l.take (q + 1)) f) = if bearsB d f = true then addN (onceL (bearersL (l.take q) f)) d.name else onceL (bearersL (l.take q) f) := by
  rw [bearers_take f h]
  unfold onceL
  rw [List.foldl_append]
  split <;> rfl
theorem filter_adds (p : ByteArray → Bool) : ∀ (l out : List ByteArray), (l.foldl addN out).filter p = (l.filter p).foldl addN (out.filter p)
  | [], _ => rfl
  | s :: t, out => by
    rw [List.foldl_cons, filter_adds p t]
    by_cases hp : p s = true
    · rw [List.filter_cons_of_pos hp, List.foldl_cons]
      congr 1
      unfold addN
      by_cases h : hasN out s = true
      · have h2 : hasN (out.filter p) s = true := hasN_iff.2 (List.mem_filter.2 ⟨hasN_iff.1 h, hp⟩)
        rw [if_pos h, if_pos h2]
      · have h2 : ¬ hasN (out.filter p) s = true := fun e => h (hasN_iff.2 (List.mem_filter.1 (hasN_iff.1 e)).1)
        rw [if_neg h, if_neg h2, List.filter_append, List.filter_cons_of_pos hp]
        rfl
    · rw [List.filter_cons_of_neg hp]
      congr 1
      unfold addN
      split
      · rfl
      · rw [List.filter_append, List.filter_cons_of_neg hp]
        simp
/-- The Objects among the parts, each once, as the document finds them. -/
def objO (S : SchT) (l : List ByteArray) : List ByteArray := onceL (l.filter (objB S))
theorem objO_all (S : SchT) (l : List ByteArray) : objO S l = objL S (onceL l) := by
  unfold objO objL onceL
  rw [filter_adds]
  rfl
theorem objO_take {S : SchT} {l : List ByteArray} {q : Nat} {x : ByteArray} (h : l[q]? = some x) : objO S (l.take (q + 1)) = if objB S x = true then addN (objO S (l.take q)) x else objO S (l.take q) := by
  unfold objO onceL
  rw [List.take_add_one, h, List.filter_append, List.foldl_append]
  split
  · rename_i e
    rw [show (some x).toList = [x] from rfl, List.filter_cons_of_pos e]
    rfl
  · rename_i e
    rw [show (some x).toList = [x] from rfl, List.filter_cons_of_neg e]
    rfl
theorem objO_len (S : SchT) (l : List ByteArray) : (objO S l).length ≤ l.length := Nat.le_trans (once_len _) (List.length_filter_le _ _)
/-- The schema's box is the first block of one's own, the definition's another. -/
def BX (w : World) (c0 c1 c2 : Value) (W : World) : Prop := Below w.heap.size w W ∧ W.heap[w.heap.size]? = some (.cells #[c0, c1, c2] 24 (0, 0))
theorem BX.next {w W W' : World} {c0 c1 c2 : Value} (h : BX w c0 c1 c2 W) (hb : Below W.heap.size W W') : BX w c0 c1 c2 W' :=
  ⟨h.1.trans (hb.mono h.1.size), (hb.block _ (Array.getElem?_eq_some_iff.1 h.2).1).trans h.2⟩
theorem BX.grown {w W W' : World} {c0 c1 c2 : Value} {k : Option Nat} (h : BX w c0 c1 c2 W) (hg : W.grownBy W' k) (hk : ∀ b, k = some b → w.heap.size + 1 ≤ b) : BX w c0 c1 c2 W' :=
  ⟨below_grown h.1 hg h.1.size (fun b hb => by have := hk b hb; omega), (hg.block _ (Array.getElem?_eq_some_iff.1 h.2).1 (fun e => by have := hk _ e.symm; omega)).trans h.2⟩
theorem BX.lt {w W : World} {c0 c1 c2 : Value} (h : BX w c0 c1 c2 W) : w.heap.size < W.heap.size := (Array.getElem?_eq_some_iff.1 h.2).1
/-- The schema's box and two cells more. -/
def QW (wz : World) (g : Nat) (c0 c1 c2 : Value) (b o : Nat) (v : Value) (b' o' : Nat) (v' : Value) (W : World) : Prop := W.cell? ⟨g, 0, none⟩ = some c0 ∧ W.cell? ⟨g, 1, none⟩ = some c1 ∧ W.cell? ⟨g, 2, none⟩ = some c2 ∧ W.cell? ⟨b, o, none⟩ = some v ∧ W.cell? ⟨b', o', none⟩ = some v' ∧ Below wz.heap.size wz W
theorem QW.next {wz W W' : World} {g b o b' o' : Nat} {c0 c1 c2 v v' : Value} (h : QW wz g c0 c1 c2 b o v b' o' v' W) (hl : g < wz.heap.size) (hl2 : b < wz.heap.size) (hl3 : b' < wz.heap.size) (hb : Below W.heap.size W W') : QW wz g c0 c1 c2 b o v b' o' v' W' := by
  obtain ⟨h1, h2, h4, h5, h6, hK⟩ := h
  have q := Nat.lt_of_lt_of_le hl hK.size
  have q2 := Nat.lt_of_lt_of_le hl2 hK.size
  have q3 := Nat.lt_of_lt_of_le hl3 hK.size
  exact ⟨(hb.cell (p := ⟨g, _, none⟩) q).trans h1, (hb.cell (p := ⟨g, _, none⟩) q).trans h2, (hb.cell (p := ⟨g, _, none⟩) q).trans h4, (hb.cell (p := ⟨b, _, none⟩) q2).trans h5, (hb.cell (p := ⟨b', _, none⟩) q3).trans h6, hK.trans (hb.mono hK.size)⟩
theorem QW.written {wz W : World} {g b o b' o' : Nat} {c0 c1 c2 v v' : Value} (h : QW wz g c0 c1 c2 b o v b' o' v' W) : W.cell? ⟨g, 0, none⟩ = some c0 ∧ W.cell? ⟨g, 1, none⟩ = some c1 ∧ W.cell? ⟨g, 2, none⟩ = some c2 ∧ W.cell? ⟨b, o, none⟩ = some v ∧ W.cell? ⟨b', o', none⟩ = some v' ∧ QW wz g c0 c1 c2 b o v b' o' v' W := ⟨h.1, h.2.1, h.2.2.1, h.2.2.2.1, h.2.2.2.2.1, h⟩
theorem QW.held {wz W : World} {g b o b' o' : Nat} {c0 c1 c2 v v' : Value} {p1 p2 p3 p4 p5 : Prop} (h : p1 ∧ p2 ∧ p3 ∧ p4 ∧ p5 ∧ QW wz g c0 c1 c2 b o v b' o' v' W) : Below wz.heap.size wz W := h.2.2.2.2.2.2.2.2.2.2
theorem QW.last {wz W : World} {g b o b' o' : Nat} {c0 c1 c2 v v' : Value} {p1 p2 p3 p4 p5 : Prop} (h : p1 ∧ p2 ∧ p3 ∧ p4 ∧ p5 ∧ QW wz g c0 c1 c2 b o v b' o' v' W) : QW wz g c0 c1 c2 b o v b' o' v' W := h.2.2.2.2.2
end Go.Proofs.YtcfdfgbobnocnaaGreatDoor
