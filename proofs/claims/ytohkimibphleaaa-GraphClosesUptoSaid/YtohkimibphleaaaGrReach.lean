/- graph.Reach. (gen_grreach.py wrote it.) -/
import Derived.Test.YtohkimibphleaaaGrMath
import Derived.Test.YtohkimibphleaaaGrFrom
namespace Go.Proofs.Ytohkimibphleaaa
open Go.RowKit

section
variable {ws : List (List Nat)} {tn : Int} {s s' : SS} {a : Nat}
theorem from_all (hws : ∀ l, l ∈ ws → l.length ≤ 1099511627776 ∧ ∀ x, x ∈ l → x < ws.length) (ha : a < ws.length) (ho : OkR ws tn s) (hi : InvS ws tn s) (h : FromR ws tn a s s') : InvS ws tn s' ∧ (∀ y, reachB s tn y = true → reachB s' tn y = true) ∧ reachB s' tn a = true ∧ ∀ R, ClR ws R → SndS R tn s → R a → SndS R tn s' := by
  unfold FromR at h
  by_cases hb : reachB s tn a = true
  · rw [if_pos hb] at h
    subst h
    exact ⟨hi, fun _ h => h, hb, fun _ _ h _ => h⟩
  · rw [if_neg hb] at h
    obtain ⟨k, rfl⟩ := h
    have hb' : reachB s tn a = false := by simpa using hb
    have hl : a < s.bg.length := by rw [ho.bl]; exact ha
    obtain ⟨_, g2, g3, g4⟩ := iter_all hws (ho.begin hws ha hb').1 (begin_inv hl hi ha) k
    exact ⟨g2, fun y hy => g3 y ((reach_begin hl y).2 (.inr hy)), g3 a ((reach_begin hl a).2 (.inl rfl)), fun R hR hs hRa => g4 R hR (begin_snd hR hl hRa hs)⟩
theorem reach_new (n a : Nat) : reachB (newS n) 1 a = false := by
  unfold reachB newS
  show ((List.replicate n (0 : Int)).getD a 0 == 1) = false
  rw [List.getD_eq_getElem?_getD, List.getElem?_replicate]
  split <;> rfl
theorem new_ok (ws : List (List Nat)) : OkR ws 1 (newS ws.length) := ⟨List.length_replicate, fun a l h => (by cases h), by
  show 0 + (List.replicate ws.length (0 : Int)).countP _ ≤ _
  have := List.countP_le_length (p := fun v : Int => !(v == 1)) (l := List.replicate ws.length (0 : Int))
  rw [List.length_replicate] at this
  omega⟩
theorem new_inv (ws : List (List Nat)) : InvS ws 1 (newS ws.length) := fun x l _ h => by rw [reach_new] at h; cases h
theorem new_snd (R : Nat → Prop) (n : Nat) : SndS R 1 (newS n) := ⟨fun x h => (by rw [reach_new] at h; cases h), fun a t h => (by cases h)⟩
/-- A search from the first q of P. -/
structure RdR (ws : List (List Nat)) (P : List Nat) (q : Nat) (s : SS) : Prop where
  stk : s.stk = []
  ok : OkR ws 1 s
  inv : InvS ws 1 s
  all : ∀ p, p ∈ P.take q → reachB s 1 p = true
  snd : ∀ R, ClR ws R → (∀ p, p ∈ P → R p) → SndS R 1 s
theorem RdR.new (ws : List (List Nat)) (P : List Nat) : RdR ws P 0 (newS ws.length) := ⟨rfl, new_ok ws, new_inv ws, fun p hp => (by rw [List.take_zero] at hp; cases hp), fun R _ _ => new_snd R _⟩
theorem RdR.next {P : List Nat} {q : Nat} (h : RdR ws P q s) (hws : ∀ l, l ∈ ws → l.length ≤ 1099511627776 ∧ ∀ x, x ∈ l → x < ws.length) (hq : P[q]? = some a) (ha : a < ws.length) (hf : FromR ws 1 a s s') (hs : s'.stk = []) (ho : OkR ws 1 s') : RdR ws P (q + 1) s' := by
  obtain ⟨g1, g2, g3, g4⟩ := from_all hws ha h.ok h.inv hf
  refine ⟨hs, ho, g1, fun p hp => ?_, fun R hR hP => g4 R hR (h.snd R hR hP) (hP a (List.mem_of_getElem? hq))⟩
  rw [List.take_add_one, hq] at hp
  rcases List.mem_append.1 hp with hp | hp
  · exact g2 p (h.all p hp)
  · rw [List.mem_singleton.1 hp]
    exact g3
theorem RdR.reach {P : List Nat} (h : RdR ws P P.length s) (x : Nat) : reachB s 1 x = true ↔ RchI ws P x := by
  constructor
  · exact (h.snd (RchI ws P) (fun x l y hx hl hy => hx.step hl hy) (fun p hp => .start hp)).1 x
  · intro hx
    induction hx with
    | start hp => exact h.all _ (by rw [List.take_length]; exact hp)
    | step _ hl hy ih =>
      rcases h.inv _ _ hl ih _ hy with h1 | ⟨t, h1, _⟩
      · exact h1
      · rw [h.stk] at h1; cases h1
end
theorem fst_lt {N : List ByteArray} {s : ByteArray} (h : inN N s = true) : fstIx N s < N.length := by
  unfold fstIx
  rw [if_pos h]
  exact List.findIdx_lt_length.2 (by unfold inN at h; rw [List.any_eq_true] at h; exact h)
theorem plc_lt {N l : List ByteArray} {x : Nat} (h : x ∈ plcN N l) : x < N.length := by
  unfold plcN at h
  obtain ⟨s, _, hs⟩ := List.mem_filterMap.1 h
  split at hs
  · next hb => rw [← Option.some.inj hs]; exact fst_lt hb
  · cases hs
theorem ways_len (D : DocT) : (waysF D).length = D.frags.length := by unfold waysF; rw [List.length_map]
theorem names_len (D : DocT) : (namesF D).length = D.frags.length := by unfold namesF; rw [List.length_map]
theorem plc_all (N l : List ByteArray) : (plcN N l).length ≤ l.length := by
  have := plc_size N l l.length
  rwa [List.take_length] at this
theorem spr_all (XS : List SelT) : (sprL XS).length ≤ XS.length := by
  have := spr_size XS XS.length
  rwa [List.take_length] at this
theorem ways_ok {D : DocT} (hZ : szDoc D ≤ 1099511627776) : ∀ l, l ∈ waysF D → l.length ≤ 1099511627776 ∧ ∀ x, x ∈ l → x < (waysF D).length := fun l hl => by
  unfold waysF at hl
  obtain ⟨x, hx, rfl⟩ := List.mem_map.1 hl
  refine ⟨?_, fun y hy => ?_⟩
  · have h1 := plc_all (namesF D) (sprL (gpreL x.sels))
    have h2 := spr_all (gpreL x.sels)
    have h3 := gpreL_sz x.sels
    have h4 := frag_sz hx
    omega
  · have := plc_lt hy
    rw [names_len] at this
    rw [ways_len]
    exact this
/-- The names of the fragments up to q that are reached. -/
def rchUp (D : DocT) (f : Nat → Bool) : Nat → List ByteArray
  | 0 => []
  | q + 1 => rchUp D f q ++ (if f q = true then ((namesF D)[q]?).toList else [])
theorem rch_size (D : DocT) (f : Nat → Bool) : ∀ q, (rchUp D f q).length ≤ q
  | 0 => Nat.le_refl _
  | q + 1 => by
    have h := rch_size D f q
    rw [rchUp, List.length_append]
    split
    · cases (namesF D)[q]? <;> simp <;> omega
    · simp; omega
/-- From these selections. -/
def startP (D : DocT) (l : SelL) : List Nat := plcN (namesF D) (sprL (gpreL l))
set_option maxRecDepth 100000 in
set_option maxHeartbeats 8000000 in
theorem reach_any (D : DocT) (c0 c1 : Value) (l : SelL) (A : Option Addr) (k : Nat) (w : World) (B B2 : Nat) (hB : B ≤ w.heap.size) (hB2 : B2 ≤ w.heap.size) (hD : DocAt w B D c0 c1) (hZ : szDoc D ≤ 1099511627776) (hS : SelsAt w B2 l A) (hk : l.len ≤ k) (hl : szSels l ≤ 1099511627776) :
    Calls Try.prog 7 #[.agg #[c0, c1], .slice A l.len k] w fun e w' => ∃ V f, e = .returned V ∧ (∀ q, f q = true ↔ RchI (waysF D) (startP D l) q) ∧ w'.ownsRow w.heap.size 9 1 V (rchUp D f D.frags.length).length ((rchUp D f D.frags.length).map .string) ∧ Below w.heap.size w w' := by
  obtain ⟨Ao, ko, Af, kf, rfl, rfl, _⟩ := doc_cells hD.1
  have hfl := frags_sz D
  have hlz := gpreL_sz l
  obtain ⟨n, hn⟩ : ∃ n, w.heap.size = n := ⟨_, rfl⟩
  have HB0 := Lib.hid hB
  have HB2 := Lib.hid hB2
  have HDF := Lib.hid (fun (q : Nat) (x : FragT) (wx : World) (h : Below w.heap.size w wx) (hx : D.frags[q]? = some x) => hD.frag (h.mono hB) hx)
  have NO := Lib.hid (fun (wx : World) (h : Below w.heap.size w wx) => netOf_any D _ _ wx B (Nat.le_trans hB h.size) (hD.below (h.mono hB)) hZ)
  have HWS := Lib.hid (ways_ok hZ)
  have HSA := Lib.hid (fun (wx : World) (h : Below w.heap.size w wx) => hS.below (h.mono hB2))
  have HSP : Hid (∀ s, s ∈ sprL (gpreL l) → s.size ≤ 9223372036854775807) := Lib.hid (fun s hs => by have := spr_sz hs; omega)
  obtain ⟨i0, zz, hi0, kz0, kz1, kz2, kz3⟩ := gstr_row
  have HN := Lib.hid hn
  clear hD hB hS hB2
  go_enter Try.func7, Try.ntmps7
  go_upto_region 1 with fail
  have B1 : Hid (Below n w (w.alloc (.cells #[.slice Ao D.ops.length ko, .slice Af D.frags.length kf] 25))) := Lib.hid (by rw [← hn]; exact gnew _ _)
  have D1 : Hid ((w.alloc (.cells #[.slice Ao D.ops.length ko, .slice Af D.frags.length kf] 25)).heap[n]? = some (.cells #[.slice Ao D.ops.length ko, .slice Af D.frags.length kf] 25 (0, 0))) := Lib.hid (by rw [← hn]; exact heap_alloc_new _ _)
  generalize w.alloc (.cells #[.slice Ao D.ops.length ko, .slice Af D.frags.length kf] 25) = w1 at B1 D1 ⊢
  rw [hn] at NO HDF HB0 HB2 HSA
  clear hn
  obtain ⟨⟨y0, y1⟩, _⟩ := gcells2 D1.out
  go_wp2_with fail
  refine (NO.out _ B1.out).mono ?_
  rintro e w2 ⟨M, V, base, rfl, hM, hWO, hMl, hbl, hb2⟩
  have hs1 : n < w1.heap.size := (Array.getElem?_eq_some_iff.1 D1.out).1
  obtain ⟨Aw, cw, rfl, hWA⟩ := hWO.at
  have B2 := Lib.hid (B1.out.trans (hb2.mono (by omega)))
  have D2 := Lib.hid ((hb2.block n hs1).trans D1.out)
  have M2 := Lib.hid hM
  have W2 := Lib.hid hWA
  have hs2 := hb2.size
  clear hM hWO hWA hb2 B1 D1 NO y0 y1
  go_upto_region 2 with fail
  have hbn := gnew w2 (.cells #[.map (some M), .slice Aw (waysF D).length cw] 65)
  have hs3 : (w2.alloc (.cells #[.map (some M), .slice Aw (waysF D).length cw] 65)).heap.size = w2.heap.size + 1 := by simp
  have B3 := Lib.hid (B2.out.trans (hbn.mono (by omega)))
  have D3 := Lib.hid ((hbn.block n (by omega)).trans D2.out)
  have M3 := Lib.hid (M2.out.below hbn)
  have W3 : Hid (WaysAt (w2.alloc (.cells #[.map (some M), .slice Aw (waysF D).length cw] 65)) (w2.alloc (.cells #[.map (some M), .slice Aw (waysF D).length cw] 65)).heap.size Aw (waysF D)) := Lib.hid (fun j l hj => by
    obtain ⟨g, A, c, e, h1, h2, h3, h4⟩ := (W2.out.below (fun b hb => hbn.block b hb)) j l hj
    exact ⟨g, A, c, e, by omega, h2, h3, h4.keep fun b hb => ⟨by omega, rfl⟩⟩)
  have N3 := Lib.hid (heap_alloc_new w2 (.cells #[.map (some M), .slice Aw (waysF D).length cw] 65))
  generalize w2.alloc (.cells #[.map (some M), .slice Aw (waysF D).length cw] 65) = w3 at B3 D3 M3 W3 N3 hs3 ⊢
  generalize w2.heap.size = nb at N3 hs3 hs2 hbl ⊢
  clear hbn B2 D2 M2 W2
  obtain ⟨⟨y0, y1⟩, _⟩ := gcells2 N3.out
  have SE := Lib.hid (search_any M Aw cw (waysF D) w3 W3.out (by rw [ways_len]; omega))
  go_wp2_with fail
  refine SE.out.mono ?_
  rintro e w4 ⟨r, gb, ge, rfl, hS4, hr1, hr2, hr3, hb4⟩
  have hs4 := hb4.size
  have B4 := Lib.hid (B3.out.trans (hb4.mono (by omega)))
  have D4 := Lib.hid ((hb4.block n (by omega)).trans D3.out)
  have M4 := Lib.hid (M3.out.below hb4)
  have N4 := Lib.hid ((hb4.block nb (by omega)).trans N3.out)
  have S4 := Lib.hid hS4
  clear hS4 hb4 SE B3 D3 M3 W3 N3 y0 y1
  obtain ⟨⟨y0, y1⟩, _⟩ := gcells2 N4.out
  have hbs4 : B2 ≤ w4.heap.size := by have := HB2.out; omega
  have PL := Lib.hid (places_any (namesF D) M (.slice Aw (waysF D).length cw) l A k w4 B2 M4.out hbs4 (HSA.out _ B4.out) hk (gpreL l) rfl (by omega) HSP.out)
  go_wp2_with fail
  refine PL.out.mono ?_
  rintro e w5 ⟨V1, rfl, ho5, hb5⟩
  obtain ⟨P, hP⟩ : ∃ P, startP D l = P := ⟨_, rfl⟩
  change World.ownsRow _ _ _ _ _ (startP D l).length ((startP D l).map _) at ho5
  rw [hP] at ho5
  have HP := Lib.hid hP
  have hPl : P.length ≤ 1099511627776 := by
    have h1 := plc_all (namesF D) (sprL (gpreL l))
    have h2 := spr_all (gpreL l)
    rw [← hP]
    unfold startP
    omega
  have HPW : Hid (∀ p, p ∈ P → p < (waysF D).length) := Lib.hid (fun p hp => by
    rw [← hP] at hp
    have := plc_lt hp
    rwa [names_len, ← ways_len] at this)
  have hs5 := hb5.size
  have B5 := Lib.hid (B4.out.trans (hb5.mono (by omega)))
  have D5 := Lib.hid ((hb5.block n (by omega)).trans D4.out)
  have S5 := Lib.hid (S4.out.next hb5)
  have hr4 : r < w4.heap.size := (Array.getElem?_eq_some_iff.1 S4.out.box).1
  obtain ⟨A1, c1, rfl⟩ := shape_own ho5
  have O5 := Lib.hid ho5
  have hlt := S5.out.lts
  clear ho5 hb5 PL B4 D4 M4 N4 S4 hP y0 y1
  go_wp2_with fail
  go_loopg [20] P.length (fun g t wx => ∃ q : Nat, q + g = P.length ∧ t = .int .i64 q ∧ Asd (∃ Vy s, SrchG w3.heap.size r M gb ge Aw cw (waysF D) 1 Vy s wx ∧ MoV gb ge r w5 (.slice none 0 0) wx Vy ∧ RdR (waysF D) P q s))
  case atStart => exact ⟨0, by omega, rfl, Asd.intro ⟨_, _, S5.out, .of_below (Below.refl _ _), RdR.new _ _⟩⟩
  case round =>
    obtain ⟨q, hq, rfl, HX⟩ := hrel
    obtain ⟨Vy, s, hS, hM, hR⟩ := HX.out
    have S6 := Lib.hid hS
    have M6 := Lib.hid hM
    have R6 := Lib.hid hR
    clear HX hS hM hR S5
    cases gk with
    | zero =>
      obtain rfl : q = P.length := by omega
      have hk6 : ∀ b, b < w3.heap.size → wr.heap[b]? = w5.heap[b]? := fun b hb => M6.out.block b (by omega) (by omega) (by omega) (by omega) (by simp [Value.ownBlock])
      have hs6 := M6.out.size
      have B6 : Hid (Below n w wr) := Lib.hid ⟨M6.out.os.trans B5.out.os, M6.out.tape.trans B5.out.tape, M6.out.output.trans B5.out.output, Nat.le_trans B5.out.size M6.out.size, fun b hb => (hk6 b (by omega)).trans (B5.out.block b hb)⟩
      obtain ⟨⟨y0, y1⟩, _⟩ := gcells2 ((hk6 n (by omega)).trans D5.out)
      have RE := Lib.hid (fun (wx : World) (h : Below wr.heap.size wr wx) (q : Nat) (hq : q < (waysF D).length) => reached_any _ _ _ _ _ _ _ _ _ _ _ wx (S6.out.next h) q hq)
      clear hk6 M6 B5 D5 O5
      obtain ⟨f, hf⟩ : ∃ f : Nat → Bool, f = fun q => reachB s 1 q := ⟨_, rfl⟩
      have hrf : ∀ q, reachB s 1 q = f q := fun q => by rw [hf]
      have HF : Hid (∀ q, f q = true ↔ RchI (waysF D) (startP D l) q) := Lib.hid (fun q => by rw [HP.out, hf]; exact R6.out.reach q)
      simp only [hrf] at RE
      clear hf hrf R6 S6
      obtain ⟨w6, hw6⟩ : ∃ x, x = wr := ⟨_, rfl⟩
      subst hw6
      go_wp2_with fail
      go_loopg [9, 31] D.frags.length (fun g v t wx => ∃ q : Nat, q + g = D.frags.length ∧ t = .int .i64 q ∧ Asd (Below w6.heap.size w6 wx ∧ wx.ownsRow w6.heap.size 9 1 v (rchUp D f q).length ((rchUp D f q).map .string)))
      case atStart => exact ⟨0, by omega, rfl, Asd.intro ⟨Below.refl _ _, World.ownsRow_nil _ _ _ _⟩⟩
      case round =>
        obtain ⟨q, hq, rfl, HX⟩ := hrel
        have BL := Lib.hid HX.out.1
        have OL := Lib.hid HX.out.2
        have BW := Lib.hid (B6.out.trans (BL.out.mono (by have h1 := B6.out.size; have h2 := HN.out; omega)))
        have hqs := rch_size D f q
        clear HX
        cases gk with
        | zero =>
          obtain rfl : q = D.frags.length := by omega
          go_wp2_with fail
          go_ret
          rw [HN.out]
          exact ⟨_, f, rfl, HF.out, gown_base OL.out (by have h1 := B6.out.size; have h2 := HN.out; omega), BW.out⟩
        | succ g =>
          have hqn : q < D.frags.length := by omega
          have hqn' : (q : Int) < (D.frags.length : Int) := by omega
          obtain ⟨x, hx⟩ : ∃ x, D.frags[q]? = some x := ⟨_, List.getElem?_eq_getElem hqn⟩
          obtain ⟨b, p, Ad, kd, As, ks, rfl, hlt, ⟨f0, f1, f2, f3⟩, _⟩ := HDF.out q x wr BW.out hx
          have hun : Hid (rchUp D f (q + 1) = rchUp D f q ++ (if f q = true then [x.name] else [])) := Lib.hid (by
            rw [rchUp]
            congr 1
            unfold namesF
            rw [List.getElem?_map, hx]
            rfl)
          clear hx
          go_upto_region 12 with fail
          clear f0 f1 f2 f3
          have hbn := gnew wr (.cells #[.string x.name, .string x.on, .slice Ad x.dirs.length kd, .slice As x.sels.len ks] 30)
          have i9 := Lib.hid (heap_alloc_new wr (.cells #[.string x.name, .string x.on, .slice Ad x.dirs.length kd, .slice As x.sels.len ks] 30))
          have BL9 := Lib.hid (BL.out.trans (hbn.mono BL.out.size))
          have OL9 := Lib.hid (OL.out.alloc (.cells #[.string x.name, .string x.on, .slice Ad x.dirs.length kd, .slice As x.sels.len ks] 30))
          generalize wr.alloc (.cells #[.string x.name, .string x.on, .slice Ad x.dirs.length kd, .slice As x.sels.len ks] 30) = w8 at i9 BL9 OL9 ⊢
          generalize wr.heap.size = gx at i9 ⊢
          clear hbn BL OL BW
          obtain ⟨⟨y0, y1, y2, y3⟩, _⟩ := gcells4 i9.out
          have RQ := Lib.hid (RE.out w8 BL9.out q (by rw [ways_len]; exact hqn))
          go_wp2_with fail
          refine RQ.out.mono ?_
          rintro e w9 ⟨rfl, hb9⟩
          have i9 := Lib.hid ((hb9.block gx (Array.getElem?_eq_some_iff.1 i9.out).1).trans i9.out)
          have O10 := Lib.hid (own_low OL9.out hb9)
          have B10 := Lib.hid (BL9.out.trans (hb9.mono BL9.out.size))
          clear hb9 RQ OL9 BL9 y0 y1 y2 y3
          obtain ⟨⟨y0, y1, y2, y3⟩, _⟩ := gcells4 i9.out
          cases hfq : f q with
          | false =>
            rw [hfq] at hun
            go_wp2_with fail
            go_roundg g
            case measure => omega
            case rel =>
              refine ⟨q + 1, by omega, by go_num, Asd.intro ⟨B10.out, ?_⟩⟩
              rw [hun.out, if_neg (by simp), List.append_nil]
              exact O10.out
          | true =>
            rw [hfq] at hun
            go_wp2_with (at_builtin; go_loud (refine wpList_append_lies _ rfl _ _ 32 rfl w6.heap.size 9 i0 zz 1 16 Try.underlying32 hi0 kz0 kz1 kz2 kz3 (by decide) _ (rchUp D f q).length _ rfl (O10.out.alloc _) _ 1 1 [.string x.name] rfl rfl (gone_news _ _ _ (by first | rfl | (simp; done))) (by intro y hy; simp at hy; subst hy; rfl) (by decide) (by unfold maxLen; omega) (by omega) (by have := B10.out.size; simp; omega) _ rfl ?_; intro g6 cap6 W6 hown6 hgrow hat hlt6; have HG6 := Lib.hid hgrow; have HO6 := Lib.hid hown6; clear hgrow hown6 hat))
            go_roundg g
            case measure => omega
            case rel =>
              have HO7 := HO6.out
              refine ⟨q + 1, by omega, by go_num, Asd.intro ⟨gbelow_grown (B10.out.alloc B10.out.size _) HG6.out (by have := B10.out.size; simp; omega) (fun b hb => (O10.out.lt b hb).1), ?_⟩⟩
              rw [hun.out, if_pos trivial, List.length_append, List.map_append]
              exact HO7
    | succ g =>
      have hqn : q < P.length := by omega
      have hqn' : (q : Int) < (P.length : Int) := by omega
      obtain ⟨p, hp⟩ : ∃ p, P[q]? = some p := ⟨_, List.getElem?_eq_getElem hqn⟩
      obtain ⟨g1, cp, e1, hg1, hg2⟩ := World.ownsRow.form O5.out (by omega)
      injection e1 with e1 e2 e3
      subst e1 e3
      have hc := O5.out.cells (g := g1) rfl q (.int .i64 p) (by rw [List.getElem?_map, hp]; rfl)
      rw [add_at, Nat.zero_add] at hc
      have hcx := (World.cell?_of_block (a := ⟨g1, q, none⟩) (M6.out.block g1 hg2 (by omega) (by omega) (by omega) (by simp [Value.ownBlock]))).trans hc
      have hpw := HPW.out p (List.mem_of_getElem? hp)
      have FR := Lib.hid (from_any _ _ _ _ _ _ _ _ _ _ _ wr S6.out R6.out.stk R6.out.ok p hpw HWS.out (by rw [ways_len]; omega))
      have HPQ := Lib.hid hp
      clear hp hc
      go_wp2_with fail
      refine FR.out.mono ?_
      rintro e w7 ⟨⟨v, rfl⟩, Vy7, s7, h1, h2, h3, h4, h5⟩
      have S7 := Lib.hid h1
      have M7 := Lib.hid (M6.out.trans h2)
      have R7 := Lib.hid (R6.out.next HWS.out HPQ.out hpw h5 h3 h4)
      clear h1 h2 h3 h4 h5 FR
      go_wp2_with fail
      go_roundg g
      case measure => omega
      case rel => exact ⟨q + 1, by omega, by go_num, Asd.intro ⟨_, _, S7.out, M7.out, R7.out⟩⟩
end Go.Proofs.Ytohkimibphleaaa
