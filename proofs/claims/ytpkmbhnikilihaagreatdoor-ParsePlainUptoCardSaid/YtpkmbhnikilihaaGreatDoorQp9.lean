/- The landed Type, whole. -/
import Derived.Test.YtpkmbhnikilihaaGreatDoorQp8
import Derived.Deep.Cut
namespace Go.Proofs.YtpkmbhnikilihaaGreatDoor
open Go.RowKit
def tokB (ts : List (Int × List UInt8)) : List Tok := ts.map fun t => (t.1, ⟨t.2.toArray⟩)
theorem tokB_len (ts : List (Int × List UInt8)) : (tokB ts).length = ts.length := by simp [tokB]
theorem ptokVals_at : ∀ (ts : List (Int × List UInt8)) (j : Nat) t, (tokB ts)[j]? = some t → (tokVals ts)[j * 2]? = some (.int .i64 t.1) ∧ (tokVals ts)[j * 2 + 1]? = some (.string t.2)
 | [], _, _, h => by simp [tokB] at h
 | u :: ts, 0, t, h => by
   have : (u.1, (⟨u.2.toArray⟩ : ByteArray)) = t := by simpa [tokB] using h
   subst this
   exact ⟨rfl, rfl⟩
 | u :: ts, j + 1, t, h => by
   obtain ⟨h0, h1⟩ := ptokVals_at ts j t (by simpa [tokB] using h)
   refine ⟨?_, ?_⟩
   · rw [show (j + 1) * 2 = j * 2 + 2 by omega]; simpa [tokVals] using h0
   · rw [show (j + 1) * 2 + 1 = (j * 2 + 1) + 2 by omega]; simpa [tokVals] using h1
theorem rd_start {w : World} {base : Nat} {A : Option Addr} {cap : Nat} {ts : List (Int × List UInt8)} (h : w.ownsRow base 70 2 (.slice A ts.length cap) ts.length (tokVals ts)) (hl : ts.length ≤ 200000) {g : Nat} (hg : g = w.heap.size) : Rd (w.alloc (.cells #[.slice A ts.length cap, .int .i64 0] 147)) g (tokB ts) 0 := by
 subst hg
 have hlt := h.lt
 refine ⟨A, cap, by rw [tokB_len]; exact heap_alloc_new _ _, ?_, by rw [tokB_len]; exact hl, fun j t ht => ?_⟩
 · rw [tokB_len]
   rcases h.2 with ⟨e, h0⟩ | ⟨g, c, cur, e, _, _, hc, _⟩
   · omega
   · injection e with _ _ e; omega
 · obtain ⟨h0, h1⟩ := ptokVals_at ts j t ht
   have hj : j < ts.length := by have := (List.getElem?_eq_some_iff.1 ht).1; rwa [tokB_len] at this
   rcases h.2 with ⟨e, hn⟩ | ⟨g, c, cur, e, _, _, _, _⟩
   · omega
   · injection e with e1 _ _
     subst e1
     have hgl := (hlt g rfl).2
     refine ⟨g, 0, rfl, hgl, ?_, ?_⟩
     · rw [Nat.zero_add, World.cell?_of_block (a := ⟨g, j * 2, none⟩) (Below.heap_alloc _ _ _ hgl), h.cellAt _ (by omega)]; exact h0
     · rw [Nat.zero_add, World.cell?_of_block (a := ⟨g, j * 2 + 1, none⟩) (Below.heap_alloc _ _ _ hgl), h.cellAt _ (by omega)]; exact h1
theorem one_box {w : World} {b : Nat} {z : Value} {t : TypeId} (h : w.heap[b]? = some (.cells #[z] t (0, 0))) : w.cell? ⟨b, 0, none⟩ = some z ∧ w.frozen? ⟨b, 0, none⟩ = false := by
 refine ⟨?_, ?_⟩
 · simp only [World.cell?, h]; rfl
 · simp [World.frozen?, h]
theorem two_below' (w : World) (o o' : Obj) : Below w.heap.size w ((w.alloc o).alloc o') := ((Below.refl _ _).alloc (Nat.le_refl _) o).alloc (by simp) o'
set_option maxRecDepth 100000 in
set_option maxHeartbeats 4000000 in
theorem wrapped_any (ts : List Tok) (hN : NamesT ts) (r d : Nat) (w : World) (h : Rd w r ts d) : Calls Tryz.prog 53 #[.pointer (some ⟨r, 0, none⟩)] w fun e w' => match typeR 4 ts with
   | .ok ((n, l, m), ts') => e = .returned (.agg #[.string n, .int .i64 (l : Int), .int .i64 (m : Int)]) ∧ Rd w' r ts' d ∧ Moved r w w'
   | .error x => e = PanicE x ∧ Moved r w w' := by
 have HT := fun wx (hb : Below w.heap.size w wx) => Hd (typ_any 4 (Nat.le_refl _) ts hN r d wx (h.below hb))
 have hl := h.lt
 have hb0 := Hd (blw w (.cells #[.string ⟨#[]⟩, .int .i64 0, .int .i64 0] 39))
 clear h
 cases ht : typeR 4 ts with
 | error x =>
   rw [ht] at HT
   show Calls _ _ _ _ fun e w' => e = PanicE x ∧ Moved r w w'
   go_enter Tryz.func53, Tryz.ntmps53
   go_wp2_with fail
   refine (HT _ hb0.out).out.mono ?_
   rintro e w1 ⟨rfl, m1⟩
   exact ⟨rfl, rfl, (Moved.of_below hb0.out).trans m1⟩
 | ok p =>
   obtain ⟨⟨n, l, m⟩, ts1⟩ := p
   rw [ht] at HT
   show Calls _ _ _ _ fun e w' => e = .returned (.agg #[.string n, .int .i64 (l : Int), .int .i64 (m : Int)]) ∧ Rd w' r ts1 d ∧ Moved r w w'
   have hc0 := Hd (heap_alloc_last w (.cells #[.string ⟨#[]⟩, .int .i64 0, .int .i64 0] 39))
   go_enter Tryz.func53, Tryz.ntmps53
   go_wp2_with fail
   refine (HT _ hb0.out).out.mono ?_
   rintro e w1 ⟨rfl, r1, m1⟩
   have hc1 := m1.keep hc0.out (by omega)
   have C1 := Hd hc1
   have R1 := Hd (And.intro r1 m1)
   obtain ⟨k0, k1, k2, z0, z1, z2⟩ := ty_cells hc1
   clear r1 m1 hc1 HT
   go_wp2_with fail
   refine ret_tp rfl rfl rfl (ty_set C1.out) ⟨rfl, ((R1.out.1.set hl).set hl).set hl, ?_⟩
   exact ((((Moved.of_below hb0.out).trans R1.out.2).put (Nat.le_refl _)).put (Nat.le_refl _)).put (Nat.le_refl _)
theorem takeWhile_all (p : UInt8 → Bool) : ∀ l : List UInt8, (l.takeWhile p).all p = true
 | [] => rfl
 | b :: t => by
   rw [List.takeWhile_cons]
   split
   · rename_i h
     rw [List.all_cons, h, takeWhile_all p t]; rfl
   · rfl
theorem word_name {l : List UInt8} (h : wordN l ≠ 0) : nameB (l.take (wordN l)) = true := by
 cases l with
 | nil => exact absurd rfl h
 | cons b t =>
   have e0 : wordN (b :: t) = if letU b then 1 + (t.takeWhile nameU).length else 0 := rfl
   rw [e0] at h ⊢
   split
   · rename_i hb
     rw [Nat.add_comm, List.take_succ_cons]
     have e : t.take (t.takeWhile nameU).length = t.takeWhile nameU := (List.prefix_iff_eq_take.1 (List.takeWhile_prefix nameU)).symm
     rw [e]
     show (letB (b.toNat : Int) && tailB _) = true
     rw [show letB (b.toNat : Int) = true from hb, Bool.true_and]
     exact takeWhile_all nameU t
   · rename_i hb
     rw [if_neg hb] at h
     exact absurd rfl h
theorem tok_name {l : List UInt8} {x : List UInt8} {n : Nat} (h : tokL l = some ((2, x), n)) : nameB x = true ∧ x.length ≤ l.length := by
 unfold tokL at h
 split at h
 · cases h
 · split at h
   · rename_i hw
     have := (Prod.mk.inj (Prod.mk.inj (Option.some.inj h)).1).2
     subst this
     exact ⟨word_name hw, by rw [List.length_take]; omega⟩
   · split at h
     · rename_i hn
       have h2 := (Prod.mk.inj (Prod.mk.inj (Option.some.inj h)).1).1
       have hz : (nbL l).2 = 0 ∨ (nbL l).2 = 3 ∨ (nbL l).2 = 4 := by
        unfold nbL
        split
        · exact .inl rfl
        · split
          · exact .inl rfl
          · unfold nmL
            split
            · exact .inl rfl
            · simp only
              split
              · exact .inr (.inl rfl)
              · exact .inr (.inr rfl)
       omega
     · cases hq : quoteL l with
       | none => rw [hq] at h; cases h
       | some q => rw [hq] at h; cases h
theorem readF_names : ∀ (n : Nat) (l : List UInt8) ts, readF n l = some ts → ∀ t ∈ ts, t.1 = 2 → nameB t.2 = true ∧ t.2.length ≤ l.length
 | 0, _, _, h => by cases h
 | n + 1, l, ts, h => by
   rw [readF] at h
   split at h
   · intro t ht hk
     have := readF_names n _ ts h t ht hk
     exact ⟨this.1, Nat.le_trans this.2 (by rw [List.length_drop]; omega)⟩
   · split at h
     · cases h
       intro t ht; cases ht
     · cases hk : tokL l with
       | none => rw [hk] at h; cases h
       | some p =>
         obtain ⟨⟨k, x⟩, m⟩ := p
         rw [hk] at h
         cases hr : readF n (l.drop m) with
         | none => simp only [hr] at h; cases h
         | some us =>
           simp only [hr] at h
           have h := Option.some.inj h
           subst h
           intro t ht h2
           rcases List.mem_cons.1 ht with e | e
           · subst e
             have h2 : k = 2 := h2
             subst h2
             exact tok_name hk
           · have := readF_names n _ us hr t e h2
             exact ⟨this.1, Nat.le_trans this.2 (by rw [List.length_drop]; omega)⟩
theorem read_names {s : ByteArray} {ts : List (Int × List UInt8)} (hs : s.size ≤ 9000) (h : readL s.data.toList = some ts) : NamesT (tokB ts) := by
 intro t ht hk
 unfold tokB at ht
 obtain ⟨u, hu, rfl⟩ := List.mem_map.1 ht
 have := readF_names _ _ ts h u hu hk
 refine ⟨by simpa using this.1, ?_⟩
 have h2 : (⟨u.2.toArray⟩ : ByteArray).size = u.2.length := by rw [Lib.size_eq]
 have h3 : s.data.toList.length = s.size := Array.length_toList
 show (⟨u.2.toArray⟩ : ByteArray).size ≤ 9000
 omega
theorem whole_rd {w w2 : World} {A : Option Addr} {cap : Nat} {ts : List (Int × List UInt8)} {v : Value} {B : Nat} (h : w2.ownsRow B 70 2 (.slice A ts.length cap) ts.length (tokVals ts)) (hl : ts.length ≤ 200000) (hb : w.heap.size + 2 ≤ B) :
  Rd ((w2.setCell ⟨w.heap.size + 1, 0, none⟩ v).alloc (.cells #[.slice A ts.length cap, .int .i64 0] 147)) w2.heap.size (tokB ts) 0 := by
 have hk : (w2.setCell ⟨w.heap.size + 1, 0, none⟩ v).ownsRow B 70 2 (.slice A ts.length cap) ts.length (tokVals ts) := by
  refine World.ownsRow.kept h (Moved.set (r := w.heap.size + 1)) ?_
  cases e : (Value.slice A ts.length cap).ownBlock with
  | none => exact .inl rfl
  | some k => exact .inr (fun e' => by have := (h.lt k e).1; injection e' with e'; omega)
 exact rd_start hk hl (by simp [World.setCell])
theorem whole_low {w w2 w3 w4 : World} (h : Below w.heap.size w w2) (m : Moved (w.heap.size + 1) w2 w3) (m' : Moved w2.heap.size w3 w4) (hlt : w.heap.size + 2 ≤ w2.heap.size) : Below w.heap.size w w4 :=
 ⟨m'.os.trans (m.os.trans h.os), m'.tape.trans (m.tape.trans h.tape), m'.output.trans (m.output.trans h.output), Nat.le_trans h.size (Nat.le_trans m.size m'.size), fun k hk => (m'.block k (by have := m.size; omega) (fun e => by injection e; omega)).trans ((m.block k (by omega) (fun e => by injection e; omega)).trans (h.block k hk))⟩
def ArgB (r : Nat) (fx : Bool) (p0 p1 : Nat) (w : World) : Prop := w.heap[p0]? = some (.cells #[.pointer (some ⟨r, 0, none⟩)] 76 (0, 0)) ∧ w.heap[p1]? = some (.cells #[.bool fx] 4 (0, 0)) ∧ p0 ≠ r ∧ p1 ≠ r
theorem ArgB.moved {r : Nat} {fx : Bool} {p0 p1 : Nat} {w w' : World} (h : ArgB r fx p0 p1 w) (m : Moved r w w') : ArgB r fx p0 p1 w' := ⟨m.keep h.1 h.2.2.1, m.keep h.2.1 h.2.2.2, h.2.2⟩
def NoX (_r : Nat) (_w : World) : Prop := True
theorem NoX.moved {r : Nat} {w w' : World} (_h : NoX r w) (_m : Moved r w w') : NoX r w' := trivial
set_option maxRecDepth 100000 in
theorem arg1_any (fx : Bool) (p0 p1 d : Nat) (ts : List Tok) (r : Nat) (w : World) (hG : GoodD ts) (hd : d ≤ 16) (hR : Rd w r ts d) (hK : KRd r w) (hX : ArgB r fx p0 p1 w) : Calls Tryz.prog 268 #[.pointer (some ⟨p0, 0, none⟩), .pointer (some ⟨p1, 0, none⟩)] w (Post r d w (layS (fun p => encMem p.1 p.2)) (memD fx d ts)) := by
 suffices H : ∀ Q : Ending → World → Prop, (∀ e w', Post r d w (layS (fun p => encMem p.1 p.2)) (memD fx d ts) e w' → Q e w') → Calls Tryz.prog 268 #[.pointer (some ⟨p0, 0, none⟩), .pointer (some ⟨p1, 0, none⟩)] w Q from H _ (fun _ _ h => h)
 intro Q hQ
 have HQ := Hd hQ
 have K0 := Hd (S0.start hR hK #[.string ⟨#[]⟩, .int .i64 0, .int .i64 0, .string ⟨#[]⟩, .slice none 0 0, .slice none 0 0] 98)
 obtain ⟨q0, _⟩ := one_box ((blw w (.cells #[.string ⟨#[]⟩, .int .i64 0, .int .i64 0, .string ⟨#[]⟩, .slice none 0 0, .slice none 0 0] 98)).block p0 (Array.getElem?_eq_some_iff.1 hX.1).1 |>.trans hX.1)
 obtain ⟨q1, _⟩ := one_box ((blw w (.cells #[.string ⟨#[]⟩, .int .i64 0, .int .i64 0, .string ⟨#[]⟩, .slice none 0 0, .slice none 0 0] 98)).block p1 (Array.getElem?_eq_some_iff.1 hX.2.1).1 |>.trans hX.2.1)
 have HG := Hd hG
 clear hQ hR hK hX hG
 go_enter Tryz.func268, Tryz.ntmps268
 go_wp2_with fail
 refine (mem_post fx d ts r _ HG.out hd K0.out.rd K0.out.k).mono ?_
 intro e w1 h
 cases hv : memD fx d ts with
 | error x =>
   rw [hv] at h
   obtain ⟨rfl, m⟩ := of_err h
   exact ⟨rfl, HQ.out _ _ (per hv (K0.out.mv.trans m))⟩
 | ok p =>
   obtain ⟨a, ts1⟩ := p
   rw [hv] at h
   obtain ⟨⟨v, rfl, hl⟩, r1, m1⟩ := of_ok h
   obtain ⟨s0, i1, i2, s3, A4, n4, k4, A5, n5, k5, rfl, hts⟩ := mem_open hl
   have K1 := Hd (K0.out.next r1 m1)
   have T1 := Hd (OvS.of hts K0.out.lt)
   obtain ⟨y0, y1, y2, y3, y4, y5, yz⟩ := six_cells K1.out.res
   have z0 := yz 0
   have z1 := yz 1
   have z2 := yz 2
   have z3 := yz 3
   have z4 := yz 4
   have z5 := yz 5
   have HV := Hd hv
   clear r1 m1 hl hts h hv q0 q1 yz
   go_wp2_with fail
   obtain ⟨f1, f2, f3⟩ := S0.fin (ys := [.string ⟨#[]⟩, .int .i64 0, .int .i64 0, .string ⟨#[]⟩, .slice none 0 0, .slice none 0 0]) K1.out [.string s0, .int .i64 i1, .int .i64 i2, .string s3, .slice A4 n4 k4, .slice A5 n5 k5] rfl
   have FT := T1.out.fin (w := w) (Nat.le_refl _) [.string s0, .int .i64 i1, .int .i64 i2, .string s3, .slice A4 n4 k4, .slice A5 n5 k5]
   have FP := HQ.out _ _ (post_ok HV.out ⟨_, rfl, FT⟩ f2 f3)
   exact ret_st rfl rfl rfl f1 Tryz.underlying98 ⟨_, rfl⟩ (by kernel_rfl) FP
theorem info_M : (Tryz.prog.info? 98).map (fun i => (i.zero, i.size, i.bytes)) = some (some (.agg #[.string ⟨#[]⟩, .int .i64 0, .int .i64 0, .string ⟨#[]⟩, .slice none 0 0, .slice none 0 0]), 6, 96) := by kernel_rfl
set_option maxRecDepth 100000 in
set_option maxHeartbeats 8000000 in
theorem serM_any (fx : Bool) (p0 p1 : Nat) (one : List Tok → Except Int ((ByteArray × VT) × List Tok)) (hS : ∀ ts a r, one ts = .ok (a, r) → Sfx r ts) (r d : Nat) (ts : List Tok) (w : World)
  (HC : ∀ tq wx, GoodD tq → tq.length ≤ ts.length → Rd wx r tq d → KRd r wx → ArgB r fx p0 p1 wx → Calls Tryz.prog 268 #[.pointer (some ⟨p0, 0, none⟩), .pointer (some ⟨p1, 0, none⟩)] wx (Post r d wx (layS (fun p => encMem p.1 p.2)) (one tq)))
  (hG : GoodD ts) (hR : Rd w r ts d) (hK : KRd r w) (hX : ArgB r fx p0 p1 w) : Calls Tryz.prog 267 #[.pointer (some ⟨r, 0, none⟩), .string cpB, .func (.func 268) #[] #[.pointer (some ⟨p0, 0, none⟩), .pointer (some ⟨p1, 0, none⟩)]] w (Post r d w (layR encM) (serR one addM cpB (ts.length + 1) .nil ts)) := by
 suffices H : ∀ Q : Ending → World → Prop, (∀ e w', Post r d w (layR encM) (serR one addM cpB (ts.length + 1) .nil ts) e w' → Q e w') → Calls Tryz.prog 267 #[.pointer (some ⟨r, 0, none⟩), .string cpB, .func (.func 268) #[] #[.pointer (some ⟨p0, 0, none⟩), .pointer (some ⟨p1, 0, none⟩)]] w Q from H _ (fun _ _ h => h)
 intro Q hQ
 obtain ⟨ti0, hi, hz0, hz1, hz2⟩ := info_parts info_M
 obtain ⟨RES, hRES⟩ : ∃ RES, serR one addM cpB (ts.length + 1) .nil ts = RES := ⟨_, rfl⟩
 rw [hRES] at hQ
 have HQ := Hd hQ
 have HRES := Hd hRES
 have HCC := Hd HC
 have HSS := Hd hS
 have hr := hR.lt
 have hlen : ts.length ≤ 200000 := by obtain ⟨_, _, _, _, h, _⟩ := hR; exact h
 have PL := Hd (And.intro (Array.getElem?_eq_some_iff.1 hX.1).1 (Array.getElem?_eq_some_iff.1 hX.2.1).1)
 have B0 := Hd (And.intro hR (And.intro hK (And.intro hG hX)))
 clear hQ hRES HC hS hG hR hK hX
 go_enter Tryz.func267, Tryz.ntmps267
 go_wp2_with fail
 go_loopg [7] (ts.length + 1) (fun g out wx => ∃ (acc : VM) (tq : List Tok), tq.length + 1 ≤ g ∧ tq.length ≤ ts.length ∧ (encM acc).len + tq.length ≤ 200000 ∧ Aside (RTr 98 6 w.heap.size wx out (encM acc) ∧ Moved r w wx ∧ Rd wx r tq d ∧ KRd r wx ∧ GoodD tq ∧ ArgB r fx p0 p1 wx ∧ serR one addM cpB g acc tq = RES))
 case atStart => exact ⟨.nil, ts, Nat.le_refl _, Nat.le_refl _, by rw [show (encM .nil).len = 0 from (by rw [encM]; rfl)]; omega, vaside ⟨(by rw [encM]; exact RTr.start _ _ _ _), Moved.refl _ _, B0.out.1, B0.out.2.1, B0.out.2.2.1, B0.out.2.2.2, HRES.out⟩⟩
 case round =>
  obtain ⟨acc, tq, hq, hql, hal, HA⟩ := hrel
  obtain ⟨hrt, hmx, hrx, hkx, hgx, hxx, hex⟩ := HA.out
  obtain ⟨xs, P, hown, hvals, hP⟩ := hrt
  obtain ⟨Ao, co, rfl⟩ := shape_own hown
  have KX := Hd (And.intro hmx (And.intro hrx (And.intro hkx hxx)))
  have GX := Hd hgx
  have EX := Hd hex
  have HRT := Hd (And.intro hown (And.intro hvals hP))
  clear HA hmx hrx hkx hgx hxx hex hown hvals hP
  cases gk with
  | zero => omega
  | succ g =>
    go_wp2_with fail
    refine (HCC.out tq _ GX.out hql KX.out.2.1 KX.out.2.2.1 KX.out.2.2.2).mono ?_
    intro e w2 h
    cases hv : one tq with
    | error x =>
      rw [hv] at h
      obtain ⟨rfl, m⟩ := of_err h
      exact ⟨rfl, HQ.out _ _ (per (by rw [← EX.out, serR, hv]) (KX.out.1.trans m))⟩
    | ok p =>
      obtain ⟨a, tq2⟩ := p
      rw [hv] at h
      obtain ⟨⟨v, rfl, hl⟩, r2, m2⟩ := of_ok h
      obtain ⟨s0, i1, i2, s3, A4, n4, k4, A5, n5, k5, rfl, hts⟩ := mem_open hl
      have hsf := HSS.out _ _ _ hv
      have hsl := hsf.2
      have G2 := Hd (GX.out.sub hsf.1)
      have M2 := Hd m2
      have R2 := Hd r2
      have T2 := Hd hts
      have hs2 := m2.size
      have hs0 := KX.out.1.size
      have O2 := Hd (own_moved HRT.out.1 m2 hr)
      have HV := Hd hv
      clear h hv hl hts r2 m2 hsf
      go_wp2_with (at_builtin; refine wpList_append_lies _ rfl _ _ 33 rfl w.heap.size 98 ti0 (.agg #[.string ⟨#[]⟩, .int .i64 0, .int .i64 0, .string ⟨#[]⟩, .slice none 0 0, .slice none 0 0]) 6 96 Tryz.underlying33 hi hz0 hz1 hz2 rfl (by decide) _ (encM acc).len xs rfl (own_low O2.out (blw _ _)) _ 1 1 [.string s0, .int .i64 i1, .int .i64 i2, .string s3, .slice A4 n4 k4, .slice A5 n5 k5] rfl rfl (fun j u hj => World.news_of_block (heap_alloc_new _ _) j u hj) (by intro y hy; simp at hy; rcases hy with rfl | rfl | rfl | rfl | rfl | rfl <;> rfl) (by decide) (by unfold maxLen; omega) (by omega) (by simp; omega) _ rfl ?_; intro gg cap2 w4 hown4 hgrow hat hlt4; have HG4 := Hd hgrow; have HO4 := Hd hown4; have HT4 := Hd hat; clear hgrow hown4 hat)
      have hgk := grown_keep HG4.out (r := r) (fun b hb => by have := (HRT.out.1.lt b hb).1; omega)
      have R4 := Hd (hgk.1 _ _ (R2.out.below (blw _ _)))
      have D4 := Hd (hgk.2 ((KX.out.2.2.1.moved M2.out).moved (Moved.of_below (blw _ _))))
      have M4 := Hd (show Moved r w w4 from by
        have m := (KX.out.1.trans M2.out).trans (Moved.of_below (blw _ (.cells #[.string s0, .int .i64 i1, .int .i64 i2, .string s3, .slice A4 n4 k4, .slice A5 n5 k5] 98)))
        exact ⟨HG4.out.os.trans m.os, HG4.out.tape.trans m.tape, HG4.out.output.trans m.output, Nat.le_trans m.size HG4.out.size, fun k hk hn => (HG4.out.block k (Nat.lt_of_lt_of_le hk m.size) (fun e => by have := (HRT.out.1.lt k e.symm).1; omega)).trans (m.block k hk hn)⟩)
      have XA := Hd ((KX.out.2.2.2.moved M2.out).moved (Moved.of_below (blw _ (.cells #[.string s0, .int .i64 i1, .int .i64 i2, .string s3, .slice A4 n4 k4, .slice A5 n5 k5] 98))))
      have hp0 := PL.out.1
      have hp1 := PL.out.2
      have X4 := Hd (show ArgB r fx p0 p1 w4 from ⟨(HG4.out.block p0 (by have := (Array.getElem?_eq_some_iff.1 XA.out.1).1; omega) (fun e => by have := (HRT.out.1.lt p0 e.symm).1; omega)).trans XA.out.1, (HG4.out.block p1 (by have := (Array.getElem?_eq_some_iff.1 XA.out.2.1).1; omega) (fun e => by have := (HRT.out.1.lt p1 e.symm).1; omega)).trans XA.out.2.1, XA.out.2.2⟩)
      have T4 := Hd (RTr.app hr (by omega) HRT.out.1 HRT.out.2.1 HRT.out.2.2 M2.out (TS.keep (fun _ hk => ⟨⟨hk.1, hk.2⟩, rfl⟩) _ _ T2.out) HO4.out HG4.out HT4.out)
      clear hgk
      go_wp2_with fail
      refine (skip_any r tq2 d 1 cpB _ R4.out).mono ?_
      intro e w5 h5
      have hE := EX.out
      rw [serR, HV.out] at hE
      simp only at hE
      cases hb : atB 1 cpB tq2 with
      | true =>
        rw [hb] at h5 hE
        obtain ⟨rfl, r5, m5⟩ := h5
        rw [skip_yes hb] at r5
        simp only [if_true] at hE
        have T5 := Hd ((T4.out.moved m5 hr).fin (by rw [TrL.snoc_len]; omega))
        have R5 := Hd r5
        have M5 := Hd (M4.out.trans m5)
        have E5 := Hd hE
        clear r5 m5 hE hb
        go_wp2_with fail
        exact HQ.out _ _ (post_ok E5.out.symm (show TP _ _ (.row (encM (addM acc a))) _ by rw [show encM (addM acc a) = (encM acc).snoc ((fun p => encMem p.1 p.2) a) from encM_snoc _ _ _]; exact T5.out) R5.out M5.out)
      | false =>
        rw [hb] at h5 hE
        obtain ⟨rfl, r5, m5⟩ := h5
        rw [skip_no hb] at r5
        simp only [Bool.false_eq_true, if_false] at hE
        have T5 := Hd (T4.out.moved m5 hr)
        have R5 := Hd r5
        have M5 := Hd (M4.out.trans m5)
        have X5 := Hd (X4.out.moved m5)
        have D5 := Hd (D4.out.moved m5)
        have E5 := Hd hE
        clear r5 m5 hE hb
        go_wp2_with fail
        go_roundg g
        case measure => omega
        case rel => exact ⟨addM acc a, tq2, by omega, by omega, by rw [show encM (addM acc a) = (encM acc).snoc ((fun p => encMem p.1 p.2) a) from encM_snoc _ _ _, TrL.snoc_len]; omega, vaside ⟨by rw [show encM (addM acc a) = (encM acc).snoc ((fun p => encMem p.1 p.2) a) from encM_snoc _ _ _]; exact T5.out, M5.out, R5.out, D5.out, G2.out, X5.out, E5.out⟩⟩
def LayMono {α : Type} (lay : World → (Nat → Prop) → α → Value → Prop) : Prop := ∀ (w : World) (P P' : Nat → Prop) (a : α) (v : Value), (∀ b, P b → P' b) → lay w P a v → lay w P' a v
theorem layR_mono {α : Type} (enc : α → TrL) : LayMono (layR enc) := fun _ _ _ _ _ hP h => TP.keep (fun b hb => ⟨hP b hb, rfl⟩) _ _ h
theorem post_up {α : Type} {r d : Nat} {w w1 w' : World} {lay : World → (Nat → Prop) → α → Value → Prop} {R : Except Int (α × List Tok)} {e : Ending} (hl : LayMono lay) (m : Moved r w w1) (h : Post r d w1 lay R e w') : Post r d w lay R e w' := by
 cases R with
 | error x => exact ⟨h.1, m.trans h.2⟩
 | ok p =>
   obtain ⟨a, ts'⟩ := p
   obtain ⟨⟨v, e1, h1⟩, h2, h3⟩ := of_ok h
   exact ⟨⟨v, e1, hl _ _ _ _ _ (fun b hb => ⟨Nat.le_trans m.size hb.1, hb.2⟩) h1⟩, h2, m.trans h3⟩
theorem two_heap (w : World) (o o' : Obj) : ((w.alloc o).alloc o').heap[w.heap.size]? = some o ∧ ((w.alloc o).alloc o').heap[w.heap.size + 1]? = some o' :=
 ⟨(Below.heap_alloc _ _ _ (by simp)).trans (heap_alloc_new _ _), heap_alloc2_new _ _ _⟩
set_option maxRecDepth 100000 in
set_option maxHeartbeats 4000000 in
theorem args_any (fx : Bool) (d : Nat) (ts : List Tok) (r : Nat) (w : World) (hG : GoodD ts) (hd : d ≤ 16) (hR : Rd w r ts d) (hK : KRd r w) : Calls Tryz.prog 233 #[.pointer (some ⟨r, 0, none⟩), .bool fx] w (Post r d w (layR encM) (argsR fx d ts)) := by
 suffices H : ∀ Q : Ending → World → Prop, (∀ e w', Post r d w (layR encM) (argsR fx d ts) e w' → Q e w') → Calls Tryz.prog 233 #[.pointer (some ⟨r, 0, none⟩), .bool fx] w Q from H _ (fun _ _ h => h)
 intro Q hQ
 have HQ := Hd hQ
 have hr := hR.lt
 have B0 := Hd (two_below' w (.cells #[.pointer (some ⟨r, 0, none⟩)] 76) (.cells #[.bool fx] 4))
 have X0 := Hd (show ArgB r fx w.heap.size (w.heap.size + 1) _ from ⟨(two_heap w (.cells #[.pointer (some ⟨r, 0, none⟩)] 76) (.cells #[.bool fx] 4)).1, (two_heap w (.cells #[.pointer (some ⟨r, 0, none⟩)] 76) (.cells #[.bool fx] 4)).2, by omega, by omega⟩)
 have R0 := Hd (hR.below B0.out)
 have D0 := Hd (hK.moved (Moved.of_below B0.out))
 have HG := Hd hG
 have M0 := Hd (Moved.of_below (r := r) B0.out)
 obtain ⟨q0, _⟩ := one_box X0.out.1
 clear hQ hR hK hG
 go_enter Tryz.func233, Tryz.ntmps233
 go_wp2_with fail
 refine (skip_any r ts d 1 opB _ R0.out).mono ?_
 intro e w1 h
 cases hb : atB 1 opB ts with
 | false =>
   rw [hb] at h
   obtain ⟨rfl, r1, m1⟩ := h
   rw [skip_no hb] at r1
   have R1 := Hd (And.intro r1 (M0.out.trans m1))
   have HB := Hd hb
   clear r1 m1 hb
   go_wp2_with fail
   exact HQ.out _ _ (post_ok (by unfold argsR; rw [HB.out]; rfl) (show TP _ _ (.row (encM .nil)) _ by rw [encM]; exact TP.none _ _) R1.out.1 R1.out.2)
 | true =>
   rw [hb] at h
   obtain ⟨rfl, r1, m1⟩ := h
   rw [skip_yes hb] at r1
   have R1 := Hd (And.intro r1 (M0.out.trans m1))
   have X1 := Hd (X0.out.moved m1)
   have D1 := Hd (D0.out.moved m1)
   have HB := Hd hb
   obtain ⟨q1, _⟩ := one_box X1.out.1
   clear r1 m1 hb q0
   go_wp2_with fail
   refine (serM_any fx w.heap.size (w.heap.size + 1) (memD fx d) (fun _ _ _ h => mem_sfx h) r d ts.tail w1 (fun tq wx g _ hx hk hX => arg1_any fx _ _ d tq r wx g hd hx hk hX) (HG.out.sub (at_sfx HB.out).1) R1.out.1 D1.out X1.out).mono ?_
   intro e w2 h
   have hA : argsR fx d ts = serR (memD fx d) addM cpB (ts.tail.length + 1) .nil ts.tail := by unfold argsR; rw [HB.out]; rfl
   rw [← hA] at h
   have h := post_up (layR_mono _) R1.out.2 h
   cases hv : argsR fx d ts with
   | error x =>
     rw [hv] at h
     obtain ⟨rfl, m⟩ := of_err h
     exact ⟨rfl, HQ.out _ _ (per hv m)⟩
   | ok p =>
     obtain ⟨l, ts1⟩ := p
     rw [hv] at h
     obtain ⟨⟨v, rfl, hl⟩, r2, m2⟩ := of_ok h
     obtain ⟨A, c, rfl, hl2⟩ := row_open hl
     have F := Hd (And.intro hl2 (And.intro r2 m2))
     have HV := Hd hv
     clear h hv hl hl2 r2 m2 hA
     go_wp2_with fail
     exact HQ.out _ _ (post_ok HV.out F.out.1 F.out.2.1 F.out.2.2)
theorem info_D : (Tryz.prog.info? 178).map (fun i => (i.zero, i.size, i.bytes)) = some (some (.agg #[.string ⟨#[]⟩, .slice none 0 0]), 2, 40) := by kernel_rfl
theorem dirsF_end {fx : Bool} {d g : Nat} {acc : List DirT} {ts : List Tok} (h : atB 1 atmB ts = false) : dirsF fx d (g + 1) acc ts = .ok (acc, ts) := by rw [dirsF, if_neg (by rw [h]; simp)]
theorem dirsF_on {fx : Bool} {d g : Nat} {acc : List DirT} {ts : List Tok} (h : atB 1 atmB ts = true) : dirsF fx d (g + 1) acc ts = (match nameR ts.tail with
 | none => .error 2
 | some (n, r) =>
   match argsR fx d r with
   | .error x => .error x
   | .ok (m, r2) => dirsF fx d g (acc ++ [(n, m)]) r2) := by rw [dirsF, if_pos h]; rfl
set_option maxRecDepth 100000 in
set_option maxHeartbeats 8000000 in
theorem dirs_any (fx : Bool) (d : Nat) (ts : List Tok) (r : Nat) (w : World) (hG : GoodD ts) (hd : d ≤ 16) (hR : Rd w r ts d) (hK : KRd r w) : Calls Tryz.prog 177 #[.pointer (some ⟨r, 0, none⟩), .bool fx] w (Post r d w (layR (rowOf encD)) (dirsR fx d ts)) := by
 suffices H : ∀ Q : Ending → World → Prop, (∀ e w', Post r d w (layR (rowOf encD)) (dirsR fx d ts) e w' → Q e w') → Calls Tryz.prog 177 #[.pointer (some ⟨r, 0, none⟩), .bool fx] w Q from H _ (fun _ _ h => h)
 intro Q hQ
 obtain ⟨i0, hi, hz0, hz1, hz2⟩ := info_parts info_D
 obtain ⟨RES, hRES⟩ : ∃ RES, dirsR fx d ts = RES := ⟨_, rfl⟩
 rw [hRES] at hQ
 have HQ := Hd hQ
 have HRES := Hd hRES
 have hr := hR.lt
 have hlen : ts.length ≤ 200000 := by obtain ⟨_, _, _, _, h, _⟩ := hR; exact h
 have B0 := Hd (And.intro hR (And.intro hK hG))
 clear hQ hRES hG hR hK
 go_enter Tryz.func177, Tryz.ntmps177
 go_wp2_with fail
 go_loopg [5] (ts.length + 1) (fun g out wx => ∃ (acc : List DirT) (tq : List Tok), tq.length + 1 ≤ g ∧ tq.length ≤ ts.length ∧ acc.length + tq.length ≤ 200000 ∧ Aside (RTr 178 2 w.heap.size wx out (rowOf encD acc) ∧ Moved r w wx ∧ Rd wx r tq d ∧ KRd r wx ∧ GoodD tq ∧ dirsF fx d g acc tq = RES))
 case atStart => exact ⟨[], ts, Nat.le_refl _, Nat.le_refl _, by simpa using hlen, vaside ⟨RTr.start _ _ _ _, Moved.refl _ _, B0.out.1, B0.out.2.1, B0.out.2.2, HRES.out⟩⟩
 case round =>
  obtain ⟨acc, tq, hq, hql, hal, HA⟩ := hrel
  obtain ⟨hrt, hmx, hrx, hkx, hgx, hex⟩ := HA.out
  obtain ⟨Ao, co, rfl⟩ := hrt.shape
  have KX := Hd (And.intro hmx (And.intro hrx hkx))
  have GX := Hd hgx
  have EX := Hd hex
  have HRT := Hd hrt
  clear HA hmx hrx hkx hgx hex hrt
  cases gk with
  | zero => omega
  | succ g =>
    go_wp2_with fail
    refine (skip_any r tq d 1 atmB _ KX.out.2.1).mono ?_
    intro e w1 h
    cases hb : atB 1 atmB tq with
    | false =>
      rw [hb] at h
      obtain ⟨rfl, r1, m1⟩ := h
      rw [skip_no hb] at r1
      have hE := EX.out
      rw [dirsF_end hb] at hE
      have T5 := Hd ((HRT.out.moved m1 hr).fin (by rw [rowOf_len]; omega))
      have R1 := Hd (And.intro r1 (KX.out.1.trans m1))
      have E5 := Hd hE
      clear r1 m1 hE hb
      go_wp2_with fail
      exact HQ.out _ _ (post_ok E5.out.symm T5.out R1.out.1 R1.out.2)
    | true =>
      rw [hb] at h
      obtain ⟨rfl, r1, m1⟩ := h
      rw [skip_yes hb] at r1
      have hE := EX.out
      rw [dirsF_on hb] at hE
      have G1 := Hd (GX.out.sub (at_sfx hb).1)
      have hl1 := (at_sfx hb).2
      have R1 := Hd (And.intro r1 m1)
      have E1 := Hd hE
      clear r1 m1 hE hb
      go_wp2_with fail
      refine (pname_any r tq.tail d _ R1.out.1).mono ?_
      intro e w2 h
      cases hn : nameR tq.tail with
      | none =>
        rw [hn] at h
        obtain ⟨rfl, m⟩ := h
        have hE := E1.out
        rw [hn] at hE
        exact ⟨rfl, HQ.out _ _ (per hE.symm ((KX.out.1.trans R1.out.2).trans m))⟩
      | some p =>
        obtain ⟨nm, tq2⟩ := p
        rw [hn] at h
        obtain ⟨rfl, r2, m2⟩ := h
        have hE := E1.out
        rw [hn] at hE
        simp only at hE
        have G2 := Hd (G1.out.sub (name_sfx hn).1)
        have hl2 := (name_sfx hn).2
        have hnm := Hd (G1.out.name hn)
        have R2 := Hd (And.intro r2 (R1.out.2.trans m2))
        have E2 := Hd hE
        clear r2 m2 hE hn
        go_wp2_with fail
        refine (args_any fx d tq2 r _ G2.out hd R2.out.1 (KX.out.2.2.moved R2.out.2)).mono ?_
        intro e w3 h
        cases hv : argsR fx d tq2 with
        | error x =>
          rw [hv] at h
          obtain ⟨rfl, m⟩ := of_err h
          have hE := E2.out
          rw [hv] at hE
          exact ⟨rfl, HQ.out _ _ (per hE.symm ((KX.out.1.trans R2.out.2).trans m))⟩
        | ok p =>
          obtain ⟨l, tq3⟩ := p
          rw [hv] at h
          obtain ⟨⟨v, rfl, hl⟩, r3, m3⟩ := of_ok h
          obtain ⟨A, c, rfl, hl2'⟩ := row_open hl
          have hE := E2.out
          rw [hv] at hE
          simp only at hE
          have hl3 := (args_sfx hv).length_le
          have G3 := Hd (G2.out.sub (args_sfx hv))
          have M3 := Hd (R2.out.2.trans m3)
          have R3 := Hd r3
          have E3 := Hd hE
          have T3 := Hd (TS.str hnm.out (TS.row (TP.keep (fun b hb => ⟨⟨Nat.le_trans R2.out.2.size hb.1, hb.2⟩, rfl⟩) _ _ hl2') (TS.nil _ _)) : TS w3 (Fresh wr w3) (encD (nm, l)) [.string nm, .slice A (encM l).len c])
          have hs3 := M3.out.size
          have hs0 := KX.out.1.size
          obtain ⟨xs, P, hown, hvals, hP⟩ := HRT.out
          have HOW := Hd (And.intro hown (And.intro hvals hP))
          have O3 := Hd (own_moved hown M3.out hr)
          clear h hv hl hl2' r3 m3 hE hown hvals hP
          go_wp2_with (at_builtin; refine wpList_append_lies _ rfl _ _ 66 rfl w.heap.size 178 i0 (.agg #[.string ⟨#[]⟩, .slice none 0 0]) 2 40 Tryz.underlying66 hi hz0 hz1 hz2 rfl (by decide) _ (rowOf encD acc).len xs rfl (own_low O3.out (blw _ _)) _ 1 1 [.string nm, .slice A (encM l).len c] rfl rfl (fun j u hj => World.news_of_block (heap_alloc_new _ _) j u hj) (by intro y hy; simp at hy; rcases hy with rfl | rfl <;> rfl) (by decide) (by unfold maxLen; rw [rowOf_len]; omega) (by rw [rowOf_len]; omega) (by simp; omega) _ rfl ?_; intro gg cap2 w4 hown4 hgrow hat hlt4; have HG4 := Hd hgrow; have HO4 := Hd hown4; have HT4 := Hd hat; clear hgrow hown4 hat)
          have hgk := grown_keep HG4.out (r := r) (fun b hb => by have := (HOW.out.1.lt b hb).1; omega)
          have R4 := hgk.1 _ _ (R3.out.below (blw _ _))
          have D4 := hgk.2 ((KX.out.2.2.moved M3.out).moved (Moved.of_below (blw _ _)))
          have M4 : Moved r w w4 := by
           have m := (KX.out.1.trans M3.out).trans (Moved.of_below (blw _ (.cells #[.string nm, .slice A (encM l).len c] 178)))
           exact ⟨HG4.out.os.trans m.os, HG4.out.tape.trans m.tape, HG4.out.output.trans m.output, Nat.le_trans m.size HG4.out.size, fun k hk hn => (HG4.out.block k (Nat.lt_of_lt_of_le hk m.size) (fun e => by have := (HOW.out.1.lt k e.symm).1; omega)).trans (m.block k hk hn)⟩
          have T4 := RTr.app hr (by omega) HOW.out.1 HOW.out.2.1 HOW.out.2.2 M3.out (TS.keep (fun _ hk => ⟨⟨hk.1, hk.2⟩, rfl⟩) _ _ T3.out) HO4.out HG4.out HT4.out
          go_roundg g
          case measure => omega
          case rel => exact ⟨acc ++ [(nm, l)], tq3, by omega, by omega, by rw [List.length_append]; simp; omega, vaside ⟨by rw [rowOf_snoc]; exact T4, M4, R4, D4, G3.out, E3.out⟩⟩
theorem zero_ts (w : World) (P : Nat → Prop) : TS w P (encV zeroT) [.int .i64 0, .int .i64 0, .string ⟨#[]⟩, .slice none 0 0, .slice none 0 0] := vp_ts _ _ _ _ _ _ (flat_vp w P 0 0 eB (Nat.zero_le _))
set_option maxRecDepth 100000 in
set_option maxHeartbeats 8000000 in
theorem variable_any (d : Nat) (ts : List Tok) (r : Nat) (w : World) (hG : GoodD ts) (hd : d ≤ 16) (hR : Rd w r ts d) (hK : KRd r w) : Calls Tryz.prog 176 #[.pointer (some ⟨r, 0, none⟩)] w (Post r d w (layS encVar) (varR d ts)) := by
 suffices H : ∀ Q : Ending → World → Prop, (∀ e w', Post r d w (layS encVar) (varR d ts) e w' → Q e w') → Calls Tryz.prog 176 #[.pointer (some ⟨r, 0, none⟩)] w Q from H _ (fun _ _ h => h)
 intro Q hQ
 have HQ := Hd hQ
 have K0 := Hd (S0.start hR hK #[.string ⟨#[]⟩, .string ⟨#[]⟩, .int .i64 0, .int .i64 0, .bool false, .int .i64 0, .int .i64 0, .string ⟨#[]⟩, .slice none 0 0, .slice none 0 0] 119)
 have G0 := Hd hG
 clear hQ hR hK hG
 go_enter Tryz.func176, Tryz.ntmps176
 go_wp2_with fail
 refine (need_any r ts d 1 dolB _ K0.out.rd).mono ?_
 intro e w1 h
 cases hb : atB 1 dolB ts with
 | false =>
   rw [hb] at h
   simp only [Bool.false_eq_true, if_false] at h
   obtain ⟨rfl, m⟩ := h
   exact ⟨rfl, HQ.out _ _ (per (by simp only [varR, hb, if_false, Bool.false_eq_true]) (K0.out.mv.trans m))⟩
 | true =>
   rw [hb] at h
   simp only [if_true] at h
   obtain ⟨rfl, rr, mm⟩ := h
   have G2 := Hd (G0.out.sub (at_sfx hb).1)
   have E3 := Hd hb
   have K4 := Hd (K0.out.next rr mm)
   clear rr mm hb
   go_wp2_with fail
   refine (pname_any r (ts.tail) d _ K4.out.rd).mono ?_
   intro e w5 h
   cases hn : nameR (ts.tail) with
   | none =>
     rw [hn] at h
     obtain ⟨rfl, m⟩ := h
     exact ⟨rfl, HQ.out _ _ (per (by simp only [varR, E3.out, hn, if_true]) (K4.out.mv.trans m))⟩
   | some p =>
     obtain ⟨nm, tn5⟩ := p
     rw [hn] at h
     obtain ⟨rfl, rr, mm⟩ := h
     have Nnm := Hd (G2.out.name hn)
     have G6 := Hd (G2.out.sub (name_sfx hn).1)
     have E7 := Hd hn
     have K8 := Hd (K4.out.next rr mm)
     clear rr mm hn
     go_wp2_with fail
     have K9 := Hd (S1.make K8.out #[.string nm, .string ⟨#[]⟩, .int .i64 0, .int .i64 0, .bool false, .int .i64 0, .int .i64 0, .string ⟨#[]⟩, .slice none 0 0, .slice none 0 0] 119)
     refine (need_any r tn5 d 1 colB _ K9.out.rd).mono ?_
     intro e w10 h
     cases hb : atB 1 colB tn5 with
     | false =>
       rw [hb] at h
       simp only [Bool.false_eq_true, if_false] at h
       obtain ⟨rfl, m⟩ := h
       exact ⟨rfl, HQ.out _ _ (per (by simp only [varR, E3.out, E7.out, hb, if_true, if_false, Bool.false_eq_true]) (K9.out.mv.trans m))⟩
     | true =>
       rw [hb] at h
       simp only [if_true] at h
       obtain ⟨rfl, rr, mm⟩ := h
       have G11 := Hd (G6.out.sub (at_sfx hb).1)
       have E12 := Hd hb
       have K13 := Hd (K9.out.next rr mm)
       clear rr mm hb
       go_wp2_with fail
       refine (wrapped_any tn5.tail G11.out.2 r d _ K13.out.rd).mono ?_
       intro e w14 h
       cases hv : typeR 4 (tn5.tail) with
       | error x =>
         rw [hv] at h
         obtain ⟨rfl, m⟩ := id h
         exact ⟨rfl, HQ.out _ _ (per (by simp only [varR, E3.out, E7.out, E12.out, hv, if_true]) (K13.out.mv.trans m))⟩
       | ok p =>
         obtain ⟨⟨tn, tl, tm⟩, tp14⟩ := p
         rw [hv] at h
         obtain ⟨rfl, rr, mm⟩ := h
         have NT := Hd (type_right 4 _ G11.out.2 _ _ _ _ hv).2.1
         have G15 := Hd (G11.out.sub (typ_sfx 4 _ _ _ hv).1)
         have K16 := Hd (K13.out.next rr mm)
         have E17 := Hd hv
         clear rr mm hv
         obtain ⟨y0, y1, y2, y3, y4, y5, y6, y7, y8, y9, yz⟩ := ten_cells K16.out.loc
         have yf0 := yz 0
         have yf1 := yz 1
         have yf2 := yz 2
         have yf3 := yz 3
         have yf4 := yz 4
         have yf5 := yz 5
         have yf6 := yz 6
         have yf7 := yz 7
         have yf8 := yz 8
         have yf9 := yz 9
         clear yz
         go_wp2_with fail
         clear y0 y1 y2 y3 y4 y5 y6 y7 y8 y9 yf0 yf1 yf2 yf3 yf4 yf5 yf6 yf7 yf8 yf9
         have K18 : Hid (S1 w r (((w14.setCell ⟨w5.heap.size, 1, none⟩ (.string tn)).setCell ⟨w5.heap.size, 2, none⟩ (.int .i64 (tl : Int))).setCell ⟨w5.heap.size, 3, none⟩ (.int .i64 (tm : Int))) _ (w5.heap.size) (.cells #[.string nm, .string tn, .int .i64 (tl : Int), .int .i64 (tm : Int), .bool false, .int .i64 0, .int .i64 0, .string ⟨#[]⟩, .slice none 0 0, .slice none 0 0] 119 (0, 0)) _ d) := Hd (((K16.out.put 1 (.string tn)).put 2 (.int .i64 (tl : Int))).put 3 (.int .i64 (tm : Int)))
         refine (skip_any r tp14 d 1 eqB _ K18.out.rd).mono ?_
         intro e w19 h
         cases hb : atB 1 eqB tp14 with
         | true =>
           rw [hb] at h
           obtain ⟨rfl, rr, mm⟩ := h
           rw [skip_yes hb] at rr
           have G20 := Hd (G15.out.sub (at_sfx hb).1)
           have E21 := Hd hb
           have K22 := Hd (K18.out.next rr mm)
           clear rr mm hb
           obtain ⟨y0, y1, y2, y3, y4, y5, y6, y7, y8, y9, yz⟩ := ten_cells K22.out.loc
           have yf0 := yz 0
           have yf1 := yz 1
           have yf2 := yz 2
           have yf3 := yz 3
           have yf4 := yz 4
           have yf5 := yz 5
           have yf6 := yz 6
           have yf7 := yz 7
           have yf8 := yz 8
           have yf9 := yz 9
           clear yz
           go_wp2_with fail
           clear y0 y1 y2 y3 y4 y5 y6 y7 y8 y9 yf0 yf1 yf2 yf3 yf4 yf5 yf6 yf7 yf8 yf9
           have K23 : Hid (S1 w r (w19.setCell ⟨w5.heap.size, 4, none⟩ (.bool true)) _ (w5.heap.size) (.cells #[.string nm, .string tn, .int .i64 (tl : Int), .int .i64 (tm : Int), .bool true, .int .i64 0, .int .i64 0, .string ⟨#[]⟩, .slice none 0 0, .slice none 0 0] 119 (0, 0)) _ d) := Hd (K22.out.put 4 (.bool true))
           refine (val_post true d (tp14.tail) r _ G20.out hd K23.out.rd K23.out.k).mono ?_
           intro e w24 h
           cases hv : valD true d (tp14.tail) with
           | error x =>
             rw [hv] at h
             obtain ⟨rfl, m⟩ := of_err h
             exact ⟨rfl, HQ.out _ _ (per (by simp only [varR, E3.out, E7.out, E12.out, E17.out, E21.out, hv, if_true]) (K23.out.mv.trans m))⟩
           | ok p =>
             obtain ⟨v0, tp24⟩ := p
             rw [hv] at h
             obtain ⟨⟨v, rfl, hl⟩, rr, mm⟩ := of_ok h
             obtain ⟨vk, vn, vs, A3, n3, k3, A4, n4, k4, rfl, hts⟩ := val_open hl
             have G25 := Hd (G20.out.sub (val_sfx hv).1)
             have K26 := Hd (K23.out.next rr mm)
             have O27 := Hd (OvS.of hts K23.out.blt)
             have E28 := Hd hv
             clear rr mm hv hl hts h
             obtain ⟨y0, y1, y2, y3, y4, y5, y6, y7, y8, y9, yz⟩ := ten_cells K26.out.loc
             have yf0 := yz 0
             have yf1 := yz 1
             have yf2 := yz 2
             have yf3 := yz 3
             have yf4 := yz 4
             have yf5 := yz 5
             have yf6 := yz 6
             have yf7 := yz 7
             have yf8 := yz 8
             have yf9 := yz 9
             clear yz
             go_upto_region 8 with fail
             clear y0 y1 y2 y3 y4 y5 y6 y7 y8 y9 yf0 yf1 yf2 yf3 yf4 yf5 yf6 yf7 yf8 yf9
             have K29 : Hid (S1 w r (((((w24.setCell ⟨w5.heap.size, 5, none⟩ (.int .i64 vk)).setCell ⟨w5.heap.size, 6, none⟩ (.int .i64 vn)).setCell ⟨w5.heap.size, 7, none⟩ (.string vs)).setCell ⟨w5.heap.size, 8, none⟩ (.slice A3 n3 k3)).setCell ⟨w5.heap.size, 9, none⟩ (.slice A4 n4 k4)) _ (w5.heap.size) (.cells #[.string nm, .string tn, .int .i64 (tl : Int), .int .i64 (tm : Int), .bool true, .int .i64 vk, .int .i64 vn, .string vs, .slice A3 n3 k3, .slice A4 n4 k4] 119 (0, 0)) _ d) := Hd (((((K26.out.put 5 (.int .i64 vk)).put 6 (.int .i64 vn)).put 7 (.string vs)).put 8 (.slice A3 n3 k3)).put 9 (.slice A4 n4 k4))
             have O30 : Hid (OvS (w5.heap.size) (((((w24.setCell ⟨w5.heap.size, 5, none⟩ (.int .i64 vk)).setCell ⟨w5.heap.size, 6, none⟩ (.int .i64 vn)).setCell ⟨w5.heap.size, 7, none⟩ (.string vs)).setCell ⟨w5.heap.size, 8, none⟩ (.slice A3 n3 k3)).setCell ⟨w5.heap.size, 9, none⟩ (.slice A4 n4 k4)) _ _) := Hd (((((O27.out.put (i := 5) (v := .int .i64 vk) (Nat.le_refl _)).put (i := 6) (v := .int .i64 vn) (Nat.le_refl _)).put (i := 7) (v := .string vs) (Nat.le_refl _)).put (i := 8) (v := .slice A3 n3 k3) (Nat.le_refl _)).put (i := 9) (v := .slice A4 n4 k4) (Nat.le_refl _))
             generalize (((((w24.setCell ⟨w5.heap.size, 5, none⟩ (.int .i64 vk)).setCell ⟨w5.heap.size, 6, none⟩ (.int .i64 vn)).setCell ⟨w5.heap.size, 7, none⟩ (.string vs)).setCell ⟨w5.heap.size, 8, none⟩ (.slice A3 n3 k3)).setCell ⟨w5.heap.size, 9, none⟩ (.slice A4 n4 k4)) = wz31 at K29 O30 ⊢
             obtain ⟨y0, y1, y2, y3, y4, y5, y6, y7, y8, y9, yz⟩ := ten_cells K29.out.loc
             have yf0 := yz 0
             have yf1 := yz 1
             have yf2 := yz 2
             have yf3 := yz 3
             have yf4 := yz 4
             have yf5 := yz 5
             have yf6 := yz 6
             have yf7 := yz 7
             have yf8 := yz 8
             have yf9 := yz 9
             clear yz
             obtain ⟨x0, x1, x2, x3, x4, x5, x6, x7, x8, x9, xz⟩ := ten_cells K29.out.res
             have xf0 := xz 0
             have xf1 := xz 1
             have xf2 := xz 2
             have xf3 := xz 3
             have xf4 := xz 4
             have xf5 := xz 5
             have xf6 := xz 6
             have xf7 := xz 7
             have xf8 := xz 8
             have xf9 := xz 9
             clear xz
             go_wp2_with fail
             clear y0 y1 y2 y3 y4 y5 y6 y7 y8 y9 yf0 yf1 yf2 yf3 yf4 yf5 yf6 yf7 yf8 yf9 x0 x1 x2 x3 x4 x5 x6 x7 x8 x9 xf0 xf1 xf2 xf3 xf4 xf5 xf6 xf7 xf8 xf9
             obtain ⟨f1, f2, f3⟩ := S1.fin (ys := [.string ⟨#[]⟩, .string ⟨#[]⟩, .int .i64 0, .int .i64 0, .bool false, .int .i64 0, .int .i64 0, .string ⟨#[]⟩, .slice none 0 0, .slice none 0 0]) K29.out [.string nm, .string tn, .int .i64 (tl : Int), .int .i64 (tm : Int), .bool true, .int .i64 vk, .int .i64 vn, .string vs, .slice A3 n3 k3, .slice A4 n4 k4] rfl
             have Fv := O30.out.fin (w := w) (Nat.le_of_lt K29.out.bl) [.string nm, .string tn, .int .i64 (tl : Int), .int .i64 (tm : Int), .bool true, .int .i64 vk, .int .i64 vn, .string vs, .slice A3 n3 k3, .slice A4 n4 k4]
             have FP := HQ.out _ _ (post_ok (a := ⟨nm, tn, tl, tm, true, v0⟩) (by simp only [varR, E3.out, E7.out, E12.out, E17.out, E21.out, E28.out, if_true]) ⟨[.string nm, .string tn, .int .i64 (tl : Int), .int .i64 (tm : Int), .bool true, .int .i64 vk, .int .i64 vn, .string vs, .slice A3 n3 k3, .slice A4 n4 k4], rfl, TS.str Nnm.out (TS.str NT.out (TS.int (TS.int (TS.bool Fv))))⟩ f2 f3)
             exact ret_st rfl rfl rfl f1 Tryz.underlying119 ⟨_, rfl⟩ (by kernel_rfl) FP
         | false =>
           rw [hb] at h
           obtain ⟨rfl, rr, mm⟩ := h
           rw [skip_no hb] at rr
           have E32 := Hd hb
           have K33 := Hd (K18.out.next rr mm)
           clear rr mm hb
           obtain ⟨y0, y1, y2, y3, y4, y5, y6, y7, y8, y9, yz⟩ := ten_cells K33.out.loc
           have yf0 := yz 0
           have yf1 := yz 1
           have yf2 := yz 2
           have yf3 := yz 3
           have yf4 := yz 4
           have yf5 := yz 5
           have yf6 := yz 6
           have yf7 := yz 7
           have yf8 := yz 8
           have yf9 := yz 9
           clear yz
           obtain ⟨x0, x1, x2, x3, x4, x5, x6, x7, x8, x9, xz⟩ := ten_cells K33.out.res
           have xf0 := xz 0
           have xf1 := xz 1
           have xf2 := xz 2
           have xf3 := xz 3
           have xf4 := xz 4
           have xf5 := xz 5
           have xf6 := xz 6
           have xf7 := xz 7
           have xf8 := xz 8
           have xf9 := xz 9
           clear xz
           go_wp2_with fail
           clear y0 y1 y2 y3 y4 y5 y6 y7 y8 y9 yf0 yf1 yf2 yf3 yf4 yf5 yf6 yf7 yf8 yf9 x0 x1 x2 x3 x4 x5 x6 x7 x8 x9 xf0 xf1 xf2 xf3 xf4 xf5 xf6 xf7 xf8 xf9
           obtain ⟨f1, f2, f3⟩ := S1.fin (ys := [.string ⟨#[]⟩, .string ⟨#[]⟩, .int .i64 0, .int .i64 0, .bool false, .int .i64 0, .int .i64 0, .string ⟨#[]⟩, .slice none 0 0, .slice none 0 0]) K33.out [.string nm, .string tn, .int .i64 (tl : Int), .int .i64 (tm : Int), .bool false, .int .i64 0, .int .i64 0, .string ⟨#[]⟩, .slice none 0 0, .slice none 0 0] rfl
           have FP := HQ.out _ _ (post_ok (a := ⟨nm, tn, tl, tm, false, zeroT⟩) (by simp only [varR, E3.out, E7.out, E12.out, E17.out, E32.out, if_true, if_false, Bool.false_eq_true]) ⟨[.string nm, .string tn, .int .i64 (tl : Int), .int .i64 (tm : Int), .bool false, .int .i64 0, .int .i64 0, .string ⟨#[]⟩, .slice none 0 0, .slice none 0 0], rfl, TS.str Nnm.out (TS.str NT.out (TS.int (TS.int (TS.bool (zero_ts _ _)))))⟩ f2 f3)
           exact ret_st rfl rfl rfl f1 Tryz.underlying119 ⟨_, rfl⟩ (by kernel_rfl) FP
theorem info_V : (Tryz.prog.info? 119).map (fun i => (i.zero, i.size, i.bytes)) = some (some (.agg #[.string ⟨#[]⟩, .string ⟨#[]⟩, .int .i64 0, .int .i64 0, .bool false, .int .i64 0, .int .i64 0, .string ⟨#[]⟩, .slice none 0 0, .slice none 0 0]), 10, 136) := by kernel_rfl
set_option maxRecDepth 100000 in
set_option maxHeartbeats 8000000 in
theorem serV_any (one : List Tok → Except Int ((VarT) × List Tok)) (hS : ∀ ts a r, one ts = .ok (a, r) → Sfx r ts) (r d : Nat) (ts : List Tok) (w : World)
  (HC : ∀ tq wx, GoodD tq → tq.length ≤ ts.length → Rd wx r tq d → KRd r wx → NoX r wx → Calls Tryz.prog 176 #[.pointer (some ⟨r, 0, none⟩)] wx (Post r d wx (layS encVar) (one tq)))
  (hG : GoodD ts) (hR : Rd w r ts d) (hK : KRd r w) (hX : NoX r w) : Calls Tryz.prog 175 #[.pointer (some ⟨r, 0, none⟩), .string cpB, .func (.func 176) #[.pointer (some ⟨r, 0, none⟩)] #[]] w (Post r d w (layR (rowOf encVar)) (serR one addL cpB (ts.length + 1) [] ts)) := by
 suffices H : ∀ Q : Ending → World → Prop, (∀ e w', Post r d w (layR (rowOf encVar)) (serR one addL cpB (ts.length + 1) [] ts) e w' → Q e w') → Calls Tryz.prog 175 #[.pointer (some ⟨r, 0, none⟩), .string cpB, .func (.func 176) #[.pointer (some ⟨r, 0, none⟩)] #[]] w Q from H _ (fun _ _ h => h)
 intro Q hQ
 obtain ⟨ti0, hi, hz0, hz1, hz2⟩ := info_parts info_V
 obtain ⟨RES, hRES⟩ : ∃ RES, serR one addL cpB (ts.length + 1) [] ts = RES := ⟨_, rfl⟩
 rw [hRES] at hQ
 have HQ := Hd hQ
 have HRES := Hd hRES
 have HCC := Hd HC
 have HSS := Hd hS
 have hr := hR.lt
 have hlen : ts.length ≤ 200000 := by obtain ⟨_, _, _, _, h, _⟩ := hR; exact h
 have B0 := Hd (And.intro hR (And.intro hK (And.intro hG hX)))
 clear hQ hRES HC hS hG hR hK hX
 go_enter Tryz.func175, Tryz.ntmps175
 go_wp2_with fail
 go_loopg [7] (ts.length + 1) (fun g out wx => ∃ (acc : List VarT) (tq : List Tok), tq.length + 1 ≤ g ∧ tq.length ≤ ts.length ∧ ((rowOf encVar) acc).len + tq.length ≤ 200000 ∧ Aside (RTr 119 10 w.heap.size wx out ((rowOf encVar) acc) ∧ Moved r w wx ∧ Rd wx r tq d ∧ KRd r wx ∧ GoodD tq ∧ NoX r wx ∧ serR one addL cpB g acc tq = RES))
 case atStart => exact ⟨[], ts, Nat.le_refl _, Nat.le_refl _, by rw [show ((rowOf encVar) []).len = 0 from rfl]; omega, vaside ⟨(RTr.start _ _ _ _), Moved.refl _ _, B0.out.1, B0.out.2.1, B0.out.2.2.1, B0.out.2.2.2, HRES.out⟩⟩
 case round =>
  obtain ⟨acc, tq, hq, hql, hal, HA⟩ := hrel
  obtain ⟨hrt, hmx, hrx, hkx, hgx, hxx, hex⟩ := HA.out
  obtain ⟨xs, P, hown, hvals, hP⟩ := hrt
  obtain ⟨Ao, co, rfl⟩ := shape_own hown
  have KX := Hd (And.intro hmx (And.intro hrx (And.intro hkx hxx)))
  have GX := Hd hgx
  have EX := Hd hex
  have HRT := Hd (And.intro hown (And.intro hvals hP))
  clear HA hmx hrx hkx hgx hxx hex hown hvals hP
  cases gk with
  | zero => omega
  | succ g =>
    go_wp2_with fail
    refine (HCC.out tq _ GX.out hql KX.out.2.1 KX.out.2.2.1 KX.out.2.2.2).mono ?_
    intro e w2 h
    cases hv : one tq with
    | error x =>
      rw [hv] at h
      obtain ⟨rfl, m⟩ := of_err h
      exact ⟨rfl, HQ.out _ _ (per (by rw [← EX.out, serR, hv]) (KX.out.1.trans m))⟩
    | ok p =>
      obtain ⟨a, tq2⟩ := p
      rw [hv] at h
      obtain ⟨⟨v, rfl, hl⟩, r2, m2⟩ := of_ok h
      obtain ⟨s0, s1, i2, i3, b4, i5, i6, s7, A8, n8, k8, A9, n9, k9, rfl, hts⟩ := var_open hl
      have hsf := HSS.out _ _ _ hv
      have hsl := hsf.2
      have G2 := Hd (GX.out.sub hsf.1)
      have M2 := Hd m2
      have R2 := Hd r2
      have T2 := Hd hts
      have hs2 := m2.size
      have hs0 := KX.out.1.size
      have O2 := Hd (own_moved HRT.out.1 m2 hr)
      have HV := Hd hv
      clear h hv hl hts r2 m2 hsf
      go_wp2_with (at_builtin; refine wpList_append_lies _ rfl _ _ 65 rfl w.heap.size 119 ti0 (.agg #[.string ⟨#[]⟩, .string ⟨#[]⟩, .int .i64 0, .int .i64 0, .bool false, .int .i64 0, .int .i64 0, .string ⟨#[]⟩, .slice none 0 0, .slice none 0 0]) 10 136 Tryz.underlying65 hi hz0 hz1 hz2 rfl (by decide) _ ((rowOf encVar) acc).len xs rfl (own_low O2.out (blw _ _)) _ 1 1 [.string s0, .string s1, .int .i64 i2, .int .i64 i3, .bool b4, .int .i64 i5, .int .i64 i6, .string s7, .slice A8 n8 k8, .slice A9 n9 k9] rfl rfl (fun j u hj => World.news_of_block (heap_alloc_new _ _) j u hj) (by intro y hy; simp at hy; rcases hy with rfl | rfl | rfl | rfl | rfl | rfl | rfl | rfl | rfl | rfl <;> rfl) (by decide) (by unfold maxLen; omega) (by omega) (by simp; omega) _ rfl ?_; intro gg cap2 w4 hown4 hgrow hat hlt4; have HG4 := Hd hgrow; have HO4 := Hd hown4; have HT4 := Hd hat; clear hgrow hown4 hat)
      have hgk := grown_keep HG4.out (r := r) (fun b hb => by have := (HRT.out.1.lt b hb).1; omega)
      have R4 := Hd (hgk.1 _ _ (R2.out.below (blw _ _)))
      have D4 := Hd (hgk.2 ((KX.out.2.2.1.moved M2.out).moved (Moved.of_below (blw _ _))))
      have M4 := Hd (show Moved r w w4 from by
        have m := (KX.out.1.trans M2.out).trans (Moved.of_below (blw _ (.cells #[.string s0, .string s1, .int .i64 i2, .int .i64 i3, .bool b4, .int .i64 i5, .int .i64 i6, .string s7, .slice A8 n8 k8, .slice A9 n9 k9] 119)))
        exact ⟨HG4.out.os.trans m.os, HG4.out.tape.trans m.tape, HG4.out.output.trans m.output, Nat.le_trans m.size HG4.out.size, fun k hk hn => (HG4.out.block k (Nat.lt_of_lt_of_le hk m.size) (fun e => by have := (HRT.out.1.lt k e.symm).1; omega)).trans (m.block k hk hn)⟩)
      have X4 := Hd (show NoX r w4 from trivial)
      have T4 := Hd (RTr.app hr (by omega) HRT.out.1 HRT.out.2.1 HRT.out.2.2 M2.out (TS.keep (fun _ hk => ⟨⟨hk.1, hk.2⟩, rfl⟩) _ _ T2.out) HO4.out HG4.out HT4.out)
      clear hgk
      go_wp2_with fail
      refine (skip_any r tq2 d 1 cpB _ R4.out).mono ?_
      intro e w5 h5
      have hE := EX.out
      rw [serR, HV.out] at hE
      simp only at hE
      cases hb : atB 1 cpB tq2 with
      | true =>
        rw [hb] at h5 hE
        obtain ⟨rfl, r5, m5⟩ := h5
        rw [skip_yes hb] at r5
        simp only [if_true] at hE
        have T5 := Hd ((T4.out.moved m5 hr).fin (by rw [TrL.snoc_len]; omega))
        have R5 := Hd r5
        have M5 := Hd (M4.out.trans m5)
        have E5 := Hd hE
        clear r5 m5 hE hb
        go_wp2_with fail
        exact HQ.out _ _ (post_ok E5.out.symm (show TP _ _ (.row ((rowOf encVar) (addL acc a))) _ by rw [show (rowOf encVar) (addL acc a) = ((rowOf encVar) acc).snoc (encVar a) from rowOf_snoc _ _ _]; exact T5.out) R5.out M5.out)
      | false =>
        rw [hb] at h5 hE
        obtain ⟨rfl, r5, m5⟩ := h5
        rw [skip_no hb] at r5
        simp only [Bool.false_eq_true, if_false] at hE
        have T5 := Hd (T4.out.moved m5 hr)
        have R5 := Hd r5
        have M5 := Hd (M4.out.trans m5)
        have X5 := Hd (X4.out.moved m5)
        have D5 := Hd (D4.out.moved m5)
        have E5 := Hd hE
        clear r5 m5 hE hb
        go_wp2_with fail
        go_roundg g
        case measure => omega
        case rel => exact ⟨addL acc a, tq2, by omega, by omega, by rw [show (rowOf encVar) (addL acc a) = ((rowOf encVar) acc).snoc (encVar a) from rowOf_snoc _ _ _, TrL.snoc_len]; omega, vaside ⟨by rw [show (rowOf encVar) (addL acc a) = ((rowOf encVar) acc).snoc (encVar a) from rowOf_snoc _ _ _]; exact T5.out, M5.out, R5.out, D5.out, G2.out, X5.out, E5.out⟩⟩
theorem info_S : (Tryz.prog.info? 72).map (fun i => (i.zero, i.size, i.bytes)) = some (some (.agg #[.int .i64 0, .string ⟨#[]⟩, .string ⟨#[]⟩, .slice none 0 0, .slice none 0 0, .string ⟨#[]⟩, .slice none 0 0]), 7, 128) := by kernel_rfl
set_option maxRecDepth 100000 in
set_option maxHeartbeats 8000000 in
theorem serS_any (one : List Tok → Except Int ((SelT) × List Tok)) (hS : ∀ ts a r, one ts = .ok (a, r) → Sfx r ts) (r d : Nat) (ts : List Tok) (w : World)
  (HC : ∀ tq wx, GoodD tq → tq.length ≤ ts.length → Rd wx r tq d → KRd r wx → NoX r wx → Calls Tryz.prog 172 #[.pointer (some ⟨r, 0, none⟩)] wx (Post r d wx (layS encS) (one tq)))
  (hG : GoodD ts) (hR : Rd w r ts d) (hK : KRd r w) (hX : NoX r w) : Calls Tryz.prog 171 #[.pointer (some ⟨r, 0, none⟩), .string cmB, .func (.func 172) #[.pointer (some ⟨r, 0, none⟩)] #[]] w (Post r d w (layR encSL) (serR one addS cmB (ts.length + 1) .nil ts)) := by
 suffices H : ∀ Q : Ending → World → Prop, (∀ e w', Post r d w (layR encSL) (serR one addS cmB (ts.length + 1) .nil ts) e w' → Q e w') → Calls Tryz.prog 171 #[.pointer (some ⟨r, 0, none⟩), .string cmB, .func (.func 172) #[.pointer (some ⟨r, 0, none⟩)] #[]] w Q from H _ (fun _ _ h => h)
 intro Q hQ
 obtain ⟨ti0, hi, hz0, hz1, hz2⟩ := info_parts info_S
 obtain ⟨RES, hRES⟩ : ∃ RES, serR one addS cmB (ts.length + 1) .nil ts = RES := ⟨_, rfl⟩
 rw [hRES] at hQ
 have HQ := Hd hQ
 have HRES := Hd hRES
 have HCC := Hd HC
 have HSS := Hd hS
 have hr := hR.lt
 have hlen : ts.length ≤ 200000 := by obtain ⟨_, _, _, _, h, _⟩ := hR; exact h
 have B0 := Hd (And.intro hR (And.intro hK (And.intro hG hX)))
 clear hQ hRES HC hS hG hR hK hX
 go_enter Tryz.func171, Tryz.ntmps171
 go_wp2_with fail
 go_loopg [7] (ts.length + 1) (fun g out wx => ∃ (acc : SelL) (tq : List Tok), tq.length + 1 ≤ g ∧ tq.length ≤ ts.length ∧ (encSL acc).len + tq.length ≤ 200000 ∧ Aside (RTr 72 7 w.heap.size wx out (encSL acc) ∧ Moved r w wx ∧ Rd wx r tq d ∧ KRd r wx ∧ GoodD tq ∧ NoX r wx ∧ serR one addS cmB g acc tq = RES))
 case atStart => exact ⟨.nil, ts, Nat.le_refl _, Nat.le_refl _, by rw [show (encSL .nil).len = 0 from (by rw [encSL]; rfl)]; omega, vaside ⟨(by rw [encSL]; exact RTr.start _ _ _ _), Moved.refl _ _, B0.out.1, B0.out.2.1, B0.out.2.2.1, B0.out.2.2.2, HRES.out⟩⟩
 case round =>
  obtain ⟨acc, tq, hq, hql, hal, HA⟩ := hrel
  obtain ⟨hrt, hmx, hrx, hkx, hgx, hxx, hex⟩ := HA.out
  obtain ⟨xs, P, hown, hvals, hP⟩ := hrt
  obtain ⟨Ao, co, rfl⟩ := shape_own hown
  have KX := Hd (And.intro hmx (And.intro hrx (And.intro hkx hxx)))
  have GX := Hd hgx
  have EX := Hd hex
  have HRT := Hd (And.intro hown (And.intro hvals hP))
  clear HA hmx hrx hkx hgx hxx hex hown hvals hP
  cases gk with
  | zero => omega
  | succ g =>
    go_wp2_with fail
    refine (HCC.out tq _ GX.out hql KX.out.2.1 KX.out.2.2.1 KX.out.2.2.2).mono ?_
    intro e w2 h
    cases hv : one tq with
    | error x =>
      rw [hv] at h
      obtain ⟨rfl, m⟩ := of_err h
      exact ⟨rfl, HQ.out _ _ (per (by rw [← EX.out, serR, hv]) (KX.out.1.trans m))⟩
    | ok p =>
      obtain ⟨a, tq2⟩ := p
      rw [hv] at h
      obtain ⟨⟨v, rfl, hl⟩, r2, m2⟩ := of_ok h
      obtain ⟨i0, s1, s2, A3, n3, k3, A4, n4, k4, s5, A6, n6, k6, rfl, hts⟩ := sel_open hl
      have hsf := HSS.out _ _ _ hv
      have hsl := hsf.2
      have G2 := Hd (GX.out.sub hsf.1)
      have M2 := Hd m2
      have R2 := Hd r2
      have T2 := Hd hts
      have hs2 := m2.size
      have hs0 := KX.out.1.size
      have O2 := Hd (own_moved HRT.out.1 m2 hr)
      have HV := Hd hv
      clear h hv hl hts r2 m2 hsf
      go_wp2_with (at_builtin; refine wpList_append_lies _ rfl _ _ 59 rfl w.heap.size 72 ti0 (.agg #[.int .i64 0, .string ⟨#[]⟩, .string ⟨#[]⟩, .slice none 0 0, .slice none 0 0, .string ⟨#[]⟩, .slice none 0 0]) 7 128 Tryz.underlying59 hi hz0 hz1 hz2 rfl (by decide) _ (encSL acc).len xs rfl (own_low O2.out (blw _ _)) _ 1 1 [.int .i64 i0, .string s1, .string s2, .slice A3 n3 k3, .slice A4 n4 k4, .string s5, .slice A6 n6 k6] rfl rfl (fun j u hj => World.news_of_block (heap_alloc_new _ _) j u hj) (by intro y hy; simp at hy; rcases hy with rfl | rfl | rfl | rfl | rfl | rfl | rfl <;> rfl) (by decide) (by unfold maxLen; omega) (by omega) (by simp; omega) _ rfl ?_; intro gg cap2 w4 hown4 hgrow hat hlt4; have HG4 := Hd hgrow; have HO4 := Hd hown4; have HT4 := Hd hat; clear hgrow hown4 hat)
      have hgk := grown_keep HG4.out (r := r) (fun b hb => by have := (HRT.out.1.lt b hb).1; omega)
      have R4 := Hd (hgk.1 _ _ (R2.out.below (blw _ _)))
      have D4 := Hd (hgk.2 ((KX.out.2.2.1.moved M2.out).moved (Moved.of_below (blw _ _))))
      have M4 := Hd (show Moved r w w4 from by
        have m := (KX.out.1.trans M2.out).trans (Moved.of_below (blw _ (.cells #[.int .i64 i0, .string s1, .string s2, .slice A3 n3 k3, .slice A4 n4 k4, .string s5, .slice A6 n6 k6] 72)))
        exact ⟨HG4.out.os.trans m.os, HG4.out.tape.trans m.tape, HG4.out.output.trans m.output, Nat.le_trans m.size HG4.out.size, fun k hk hn => (HG4.out.block k (Nat.lt_of_lt_of_le hk m.size) (fun e => by have := (HRT.out.1.lt k e.symm).1; omega)).trans (m.block k hk hn)⟩)
      have X4 := Hd (show NoX r w4 from trivial)
      have T4 := Hd (RTr.app hr (by omega) HRT.out.1 HRT.out.2.1 HRT.out.2.2 M2.out (TS.keep (fun _ hk => ⟨⟨hk.1, hk.2⟩, rfl⟩) _ _ T2.out) HO4.out HG4.out HT4.out)
      clear hgk
      go_wp2_with fail
      refine (skip_any r tq2 d 1 cmB _ R4.out).mono ?_
      intro e w5 h5
      have hE := EX.out
      rw [serR, HV.out] at hE
      simp only at hE
      cases hb : atB 1 cmB tq2 with
      | true =>
        rw [hb] at h5 hE
        obtain ⟨rfl, r5, m5⟩ := h5
        rw [skip_yes hb] at r5
        simp only [if_true] at hE
        have T5 := Hd ((T4.out.moved m5 hr).fin (by rw [TrL.snoc_len]; omega))
        have R5 := Hd r5
        have M5 := Hd (M4.out.trans m5)
        have E5 := Hd hE
        clear r5 m5 hE hb
        go_wp2_with fail
        exact HQ.out _ _ (post_ok E5.out.symm (show TP _ _ (.row (encSL (addS acc a))) _ by rw [show encSL (addS acc a) = (encSL acc).snoc (encS a) from encSL_snoc _ _]; exact T5.out) R5.out M5.out)
      | false =>
        rw [hb] at h5 hE
        obtain ⟨rfl, r5, m5⟩ := h5
        rw [skip_no hb] at r5
        simp only [Bool.false_eq_true, if_false] at hE
        have T5 := Hd (T4.out.moved m5 hr)
        have R5 := Hd r5
        have M5 := Hd (M4.out.trans m5)
        have X5 := Hd (X4.out.moved m5)
        have D5 := Hd (D4.out.moved m5)
        have E5 := Hd hE
        clear r5 m5 hE hb
        go_wp2_with fail
        go_roundg g
        case measure => omega
        case rel => exact ⟨addS acc a, tq2, by omega, by omega, by rw [show encSL (addS acc a) = (encSL acc).snoc (encS a) from encSL_snoc _ _, TrL.snoc_len]; omega, vaside ⟨by rw [show encSL (addS acc a) = (encSL acc).snoc (encS a) from encSL_snoc _ _]; exact T5.out, M5.out, R5.out, D5.out, G2.out, X5.out, E5.out⟩⟩
theorem S1.make1 {w : World} {r : Nat} {cs0 : Array Value} {t0 : TypeId} {o : Obj} {ts : List Tok} {d : Nat} (h : S0 w r (w.alloc (.cells cs0 t0)) o ts d) (cs : Array Value) (t : TypeId) : S1 w r ((w.alloc (.cells cs0 t0)).alloc (.cells cs t)) o (w.heap.size + 1) (.cells cs t (0, 0)) ts d := by
 have := S1.make h cs t
 rwa [show (w.alloc (.cells cs0 t0)).heap.size = w.heap.size + 1 by simp] at this
theorem word_some {ts : List Tok} (h : wordB ts = true) : ∃ n r, nameR ts = some (n, r) := by
 cases ts with
 | nil => cases h
 | cons t ts =>
   have : t.1 = 2 := by simpa [wordB] using h
   exact ⟨t.2, ts, by rw [name_cons, if_pos this]⟩
theorem word_none {ts : List Tok} (h : wordB ts = false) : nameR ts = none := by
 cases ts with
 | nil => rfl
 | cons t ts =>
   have : t.1 ≠ 2 := by simpa [wordB] using h
   rw [name_cons, if_neg this]
set_option maxRecDepth 100000 in
set_option maxHeartbeats 8000000 in
theorem spread_any (S : SelsF) (HF : ∀ ts l r, S ts = .ok (l, r) → Sfx r ts) (d : Nat) (ts : List Tok) (r : Nat) (w : World) (HS : ∀ tq wx, GoodD tq → tq.length ≤ ts.length → Rd wx r tq d → KRd r wx → Calls Tryz.prog 96 #[.pointer (some ⟨r, 0, none⟩)] wx (Post r d wx (layR encSL) (S tq))) (hG : GoodD ts) (hd : d ≤ 16) (hR : Rd w r ts d) (hK : KRd r w) : Calls Tryz.prog 232 #[.pointer (some ⟨r, 0, none⟩)] w (Post r d w (layS encS) (spreadR S d ts)) := by
 suffices H : ∀ Q : Ending → World → Prop, (∀ e w', Post r d w (layS encS) (spreadR S d ts) e w' → Q e w') → Calls Tryz.prog 232 #[.pointer (some ⟨r, 0, none⟩)] w Q from H _ (fun _ _ h => h)
 intro Q hQ
 have HQ := Hd hQ
 have L0 := Hd (List.suffix_refl ts)
 have HSS := Hd HS
 have HFF := Hd HF
 have K0 := Hd (S0.start hR hK #[.int .i64 0, .string ⟨#[]⟩, .string ⟨#[]⟩, .slice none 0 0, .slice none 0 0, .string ⟨#[]⟩, .slice none 0 0] 72)
 have G0 := Hd hG
 clear hQ hR hK hG HS HF
 go_enter Tryz.func232, Tryz.ntmps232
 go_wp2_with fail
 have K1 := Hd (S1.make1 K0.out #[.int .i64 2, .string ⟨#[]⟩, .string ⟨#[]⟩, .slice none 0 0, .slice none 0 0, .string ⟨#[]⟩, .slice none 0 0] 72)
 refine (skip_any r ts d 2 onB _ K1.out.rd).mono ?_
 intro e w2 h
 cases hb : atB 2 onB ts with
 | true =>
   rw [hb] at h
   obtain ⟨rfl, rr, mm⟩ := h
   rw [skip_yes hb] at rr
   have G3 := Hd (G0.out.sub (at_sfx hb).1)
   have L4 := Hd (((at_sfx hb).1).trans L0.out)
   have E5 := Hd hb
   have K6 := Hd (K1.out.next rr mm)
   clear rr mm hb
   go_wp2_with fail
   refine (pname_any r (ts.tail) d _ K6.out.rd).mono ?_
   intro e w7 h
   cases hn : nameR (ts.tail) with
   | none =>
     rw [hn] at h
     obtain ⟨rfl, m⟩ := h
     exact ⟨rfl, HQ.out _ _ (per (by simp only [spreadR, inlineR, E5.out, hn, if_true]) (K6.out.mv.trans m))⟩
   | some p =>
     obtain ⟨o, tn7⟩ := p
     rw [hn] at h
     obtain ⟨rfl, rr, mm⟩ := h
     have No := Hd (G3.out.name hn)
     have G8 := Hd (G3.out.sub (name_sfx hn).1)
     have L9 := Hd (((name_sfx hn).1).trans L4.out)
     have E10 := Hd hn
     have K11 := Hd (K6.out.next rr mm)
     clear rr mm hn
     obtain ⟨y0, y1, y2, y3, y4, y5, y6, yz⟩ := svc K11.out.loc
     have yf0 := yz 0
     have yf1 := yz 1
     have yf2 := yz 2
     have yf3 := yz 3
     have yf4 := yz 4
     have yf5 := yz 5
     have yf6 := yz 6
     clear yz
     go_wp2_with fail
     clear y0 y1 y2 y3 y4 y5 y6 yf0 yf1 yf2 yf3 yf4 yf5 yf6
     have K12 : Hid (S1 w r (w7.setCell ⟨w.heap.size + 1, 5, none⟩ (.string o)) _ (w.heap.size + 1) (.cells #[.int .i64 2, .string ⟨#[]⟩, .string ⟨#[]⟩, .slice none 0 0, .slice none 0 0, .string o, .slice none 0 0] 72 (0, 0)) _ d) := Hd (K11.out.put 5 (.string o))
     refine (dirs_any false d (tn7) r _ G8.out hd K12.out.rd K12.out.k).mono ?_
     intro e w13 h
     cases hv : dirsR false d (tn7) with
     | error x =>
       rw [hv] at h
       obtain ⟨rfl, m⟩ := of_err h
       exact ⟨rfl, HQ.out _ _ (per (by simp only [spreadR, inlineR, E5.out, E10.out, hv, if_true]) (K12.out.mv.trans m))⟩
     | ok p =>
       obtain ⟨ds, tp13⟩ := p
       rw [hv] at h
       obtain ⟨⟨v, rfl, hl⟩, rr, mm⟩ := of_ok h
       obtain ⟨A4, kA4, rfl, hts⟩ := row_open hl
       have G14 := Hd (G8.out.sub (dirs_sfx hv))
       have L15 := Hd (((dirs_sfx hv)).trans L9.out)
       have K16 := Hd (K12.out.next rr mm)
       have O17 := Hd (Ov.of hts K12.out.blt)
       have E18 := Hd hv
       clear rr mm hv hl hts h
       obtain ⟨y0, y1, y2, y3, y4, y5, y6, yz⟩ := svc K16.out.loc
       have yf0 := yz 0
       have yf1 := yz 1
       have yf2 := yz 2
       have yf3 := yz 3
       have yf4 := yz 4
       have yf5 := yz 5
       have yf6 := yz 6
       clear yz
       go_wp2_with fail
       clear y0 y1 y2 y3 y4 y5 y6 yf0 yf1 yf2 yf3 yf4 yf5 yf6
       have K19 : Hid (S1 w r (w13.setCell ⟨w.heap.size + 1, 4, none⟩ (.slice A4 (rowOf encD ds).len kA4)) _ (w.heap.size + 1) (.cells #[.int .i64 2, .string ⟨#[]⟩, .string ⟨#[]⟩, .slice none 0 0, .slice A4 (rowOf encD ds).len kA4, .string o, .slice none 0 0] 72 (0, 0)) _ d) := Hd (K16.out.put 4 (.slice A4 (rowOf encD ds).len kA4))
       have O20 : Hid (Ov (w.heap.size + 1) (w13.setCell ⟨w.heap.size + 1, 4, none⟩ (.slice A4 (rowOf encD ds).len kA4)) _ _) := Hd (O17.out.put (i := 4) (v := .slice A4 (rowOf encD ds).len kA4) (Nat.le_refl _))
       refine (HSS.out (tp13) _ G14.out (L15.out.length_le) K19.out.rd K19.out.k).mono ?_
       intro e w21 h
       cases hv : S (tp13) with
       | error x =>
         rw [hv] at h
         obtain ⟨rfl, m⟩ := of_err h
         exact ⟨rfl, HQ.out _ _ (per (by simp only [spreadR, inlineR, E5.out, E10.out, E18.out, hv, if_true]) (K19.out.mv.trans m))⟩
       | ok p =>
         obtain ⟨sq, tp21⟩ := p
         rw [hv] at h
         obtain ⟨⟨v, rfl, hl⟩, rr, mm⟩ := of_ok h
         obtain ⟨A6, kA6, rfl, hts⟩ := row_open hl
         have G22 := Hd (G14.out.sub (HFF.out _ _ _ hv).1)
         have L23 := Hd (((HFF.out _ _ _ hv).1).trans L15.out)
         have K24 := Hd (K19.out.next rr mm)
         have O25 := Hd (O20.out.next mm K19.out.rb)
         have O26 := Hd (Ov.of hts K19.out.blt)
         have E27 := Hd hv
         clear rr mm hv hl hts h
         obtain ⟨y0, y1, y2, y3, y4, y5, y6, yz⟩ := svc K24.out.loc
         have yf0 := yz 0
         have yf1 := yz 1
         have yf2 := yz 2
         have yf3 := yz 3
         have yf4 := yz 4
         have yf5 := yz 5
         have yf6 := yz 6
         clear yz
         obtain ⟨x0, x1, x2, x3, x4, x5, x6, xz⟩ := svc K24.out.res
         have xf0 := xz 0
         have xf1 := xz 1
         have xf2 := xz 2
         have xf3 := xz 3
         have xf4 := xz 4
         have xf5 := xz 5
         have xf6 := xz 6
         clear xz
         go_wp2_with fail
         clear y0 y1 y2 y3 y4 y5 y6 yf0 yf1 yf2 yf3 yf4 yf5 yf6 x0 x1 x2 x3 x4 x5 x6 xf0 xf1 xf2 xf3 xf4 xf5 xf6
         have K28 : Hid (S1 w r (w21.setCell ⟨w.heap.size + 1, 6, none⟩ (.slice A6 (encSL sq).len kA6)) _ (w.heap.size + 1) (.cells #[.int .i64 2, .string ⟨#[]⟩, .string ⟨#[]⟩, .slice none 0 0, .slice A4 (rowOf encD ds).len kA4, .string o, .slice A6 (encSL sq).len kA6] 72 (0, 0)) _ d) := Hd (K24.out.put 6 (.slice A6 (encSL sq).len kA6))
         have O29 : Hid (Ov (w.heap.size + 1) (w21.setCell ⟨w.heap.size + 1, 6, none⟩ (.slice A6 (encSL sq).len kA6)) _ _) := Hd (O25.out.put (i := 6) (v := .slice A6 (encSL sq).len kA6) (Nat.le_refl _))
         have O30 : Hid (Ov (w.heap.size + 1) (w21.setCell ⟨w.heap.size + 1, 6, none⟩ (.slice A6 (encSL sq).len kA6)) _ _) := Hd (O26.out.put (i := 6) (v := .slice A6 (encSL sq).len kA6) (Nat.le_refl _))
         obtain ⟨f1, f2, f3⟩ := S1.fin (ys := [.int .i64 0, .string ⟨#[]⟩, .string ⟨#[]⟩, .slice none 0 0, .slice none 0 0, .string ⟨#[]⟩, .slice none 0 0]) K28.out [.int .i64 2, .string ⟨#[]⟩, .string ⟨#[]⟩, .slice none 0 0, .slice A4 (rowOf encD ds).len kA4, .string o, .slice A6 (encSL sq).len kA6] rfl
         have Fd := O29.out.fin (w := w) (Nat.le_of_lt K28.out.bl) [.int .i64 2, .string ⟨#[]⟩, .string ⟨#[]⟩, .slice none 0 0, .slice A4 (rowOf encD ds).len kA4, .string o, .slice A6 (encSL sq).len kA6]
         have Fs := O30.out.fin (w := w) (Nat.le_of_lt K28.out.bl) [.int .i64 2, .string ⟨#[]⟩, .string ⟨#[]⟩, .slice none 0 0, .slice A4 (rowOf encD ds).len kA4, .string o, .slice A6 (encSL sq).len kA6]
         have FP := HQ.out _ _ (post_ok (a := .mk 2 eB eB .nil ds o sq) (by simp only [spreadR, inlineR, E5.out, E10.out, E18.out, E27.out, if_true]) ⟨[.int .i64 2, .string ⟨#[]⟩, .string ⟨#[]⟩, .slice none 0 0, .slice A4 (rowOf encD ds).len kA4, .string o, .slice A6 (encSL sq).len kA6], rfl, (by rw [encS]; exact TS.int (TS.str (Nat.zero_le _) (TS.str (Nat.zero_le _) (TS.row (show TP _ _ (.row (encM .nil)) _ by rw [encM]; exact TP.none _ _) (TS.row Fd (TS.str No.out (TS.row Fs (TS.nil _ _))))))))⟩ f2 f3)
         exact ret_st rfl rfl rfl f1 Tryz.underlying72 ⟨_, rfl⟩ (by kernel_rfl) FP
 | false =>
   rw [hb] at h
   obtain ⟨rfl, rr, mm⟩ := h
   rw [skip_no hb] at rr
   have E31 := Hd hb
   have K32 := Hd (K1.out.next rr mm)
   clear rr mm hb
   go_wp2_with fail
   refine (atWord_any r ts d _ K32.out.rd).mono ?_
   intro e w33 h
   cases hb : wordB ts with
   | true =>
     rw [hb] at h
     obtain ⟨rfl, rfl⟩ := h
     obtain ⟨nm34, nt34, hn34⟩ := word_some hb
     have E35 := Hd hn34
     clear hb hn34
     obtain ⟨y0, y1, y2, y3, y4, y5, y6, yz⟩ := svc K32.out.loc
     have yf0 := yz 0
     have yf1 := yz 1
     have yf2 := yz 2
     have yf3 := yz 3
     have yf4 := yz 4
     have yf5 := yz 5
     have yf6 := yz 6
     clear yz
     go_wp2_with fail
     clear y0 y1 y2 y3 y4 y5 y6 yf0 yf1 yf2 yf3 yf4 yf5 yf6
     have K36 : Hid (S1 w r (w2.setCell ⟨w.heap.size + 1, 0, none⟩ (.int .i64 1)) _ (w.heap.size + 1) (.cells #[.int .i64 1, .string ⟨#[]⟩, .string ⟨#[]⟩, .slice none 0 0, .slice none 0 0, .string ⟨#[]⟩, .slice none 0 0] 72 (0, 0)) _ d) := Hd (K32.out.put 0 (.int .i64 1))
     refine (pname_any r (ts) d _ K36.out.rd).mono ?_
     intro e w37 h
     rw [E35.out] at h
     obtain ⟨rfl, rr, mm⟩ := h
     have Nnm34 := Hd (G0.out.name E35.out)
     have G38 := Hd (G0.out.sub (name_sfx E35.out).1)
     have L39 := Hd (((name_sfx E35.out).1).trans L0.out)
     have K40 := Hd (K36.out.next rr mm)
     clear rr mm
     obtain ⟨y0, y1, y2, y3, y4, y5, y6, yz⟩ := svc K40.out.loc
     have yf0 := yz 0
     have yf1 := yz 1
     have yf2 := yz 2
     have yf3 := yz 3
     have yf4 := yz 4
     have yf5 := yz 5
     have yf6 := yz 6
     clear yz
     go_wp2_with fail
     clear y0 y1 y2 y3 y4 y5 y6 yf0 yf1 yf2 yf3 yf4 yf5 yf6
     have K41 : Hid (S1 w r (w37.setCell ⟨w.heap.size + 1, 2, none⟩ (.string nm34)) _ (w.heap.size + 1) (.cells #[.int .i64 1, .string ⟨#[]⟩, .string nm34, .slice none 0 0, .slice none 0 0, .string ⟨#[]⟩, .slice none 0 0] 72 (0, 0)) _ d) := Hd (K40.out.put 2 (.string nm34))
     refine (dirs_any false d (nt34) r _ G38.out hd K41.out.rd K41.out.k).mono ?_
     intro e w42 h
     cases hv : dirsR false d (nt34) with
     | error x =>
       rw [hv] at h
       obtain ⟨rfl, m⟩ := of_err h
       exact ⟨rfl, HQ.out _ _ (per (by simp only [spreadR, inlineR, E31.out, E35.out, hv, if_false, Bool.false_eq_true]) (K41.out.mv.trans m))⟩
     | ok p =>
       obtain ⟨ds, tp42⟩ := p
       rw [hv] at h
       obtain ⟨⟨v, rfl, hl⟩, rr, mm⟩ := of_ok h
       obtain ⟨A4, kA4, rfl, hts⟩ := row_open hl
       have G43 := Hd (G38.out.sub (dirs_sfx hv))
       have L44 := Hd (((dirs_sfx hv)).trans L39.out)
       have K45 := Hd (K41.out.next rr mm)
       have O46 := Hd (Ov.of hts K41.out.blt)
       have E47 := Hd hv
       clear rr mm hv hl hts h
       obtain ⟨y0, y1, y2, y3, y4, y5, y6, yz⟩ := svc K45.out.loc
       have yf0 := yz 0
       have yf1 := yz 1
       have yf2 := yz 2
       have yf3 := yz 3
       have yf4 := yz 4
       have yf5 := yz 5
       have yf6 := yz 6
       clear yz
       obtain ⟨x0, x1, x2, x3, x4, x5, x6, xz⟩ := svc K45.out.res
       have xf0 := xz 0
       have xf1 := xz 1
       have xf2 := xz 2
       have xf3 := xz 3
       have xf4 := xz 4
       have xf5 := xz 5
       have xf6 := xz 6
       clear xz
       go_wp2_with fail
       clear y0 y1 y2 y3 y4 y5 y6 yf0 yf1 yf2 yf3 yf4 yf5 yf6 x0 x1 x2 x3 x4 x5 x6 xf0 xf1 xf2 xf3 xf4 xf5 xf6
       have K48 : Hid (S1 w r (w42.setCell ⟨w.heap.size + 1, 4, none⟩ (.slice A4 (rowOf encD ds).len kA4)) _ (w.heap.size + 1) (.cells #[.int .i64 1, .string ⟨#[]⟩, .string nm34, .slice none 0 0, .slice A4 (rowOf encD ds).len kA4, .string ⟨#[]⟩, .slice none 0 0] 72 (0, 0)) _ d) := Hd (K45.out.put 4 (.slice A4 (rowOf encD ds).len kA4))
       have O49 : Hid (Ov (w.heap.size + 1) (w42.setCell ⟨w.heap.size + 1, 4, none⟩ (.slice A4 (rowOf encD ds).len kA4)) _ _) := Hd (O46.out.put (i := 4) (v := .slice A4 (rowOf encD ds).len kA4) (Nat.le_refl _))
       obtain ⟨f1, f2, f3⟩ := S1.fin (ys := [.int .i64 0, .string ⟨#[]⟩, .string ⟨#[]⟩, .slice none 0 0, .slice none 0 0, .string ⟨#[]⟩, .slice none 0 0]) K48.out [.int .i64 1, .string ⟨#[]⟩, .string nm34, .slice none 0 0, .slice A4 (rowOf encD ds).len kA4, .string ⟨#[]⟩, .slice none 0 0] rfl
       have Fd := O49.out.fin (w := w) (Nat.le_of_lt K48.out.bl) [.int .i64 1, .string ⟨#[]⟩, .string nm34, .slice none 0 0, .slice A4 (rowOf encD ds).len kA4, .string ⟨#[]⟩, .slice none 0 0]
       have FP := HQ.out _ _ (post_ok (a := .mk 1 eB nm34 .nil ds eB .nil) (by simp only [spreadR, inlineR, E31.out, E35.out, E47.out, if_false, Bool.false_eq_true]) ⟨[.int .i64 1, .string ⟨#[]⟩, .string nm34, .slice none 0 0, .slice A4 (rowOf encD ds).len kA4, .string ⟨#[]⟩, .slice none 0 0], rfl, (by rw [encS]; exact TS.int (TS.str (Nat.zero_le _) (TS.str Nnm34.out (TS.row (show TP _ _ (.row (encM .nil)) _ by rw [encM]; exact TP.none _ _) (TS.row Fd (TS.str (Nat.zero_le _) (TS.row (show TP _ _ (.row (encSL .nil)) _ by rw [encSL]; exact TP.none _ _) (TS.nil _ _))))))))⟩ f2 f3)
       exact ret_st rfl rfl rfl f1 Tryz.underlying72 ⟨_, rfl⟩ (by kernel_rfl) FP
   | false =>
     rw [hb] at h
     obtain ⟨rfl, rfl⟩ := h
     have hn50 := word_none hb
     have E51 := Hd hn50
     clear hb hn50
     go_wp2_with fail
     refine (dirs_any false d (ts) r _ G0.out hd K32.out.rd K32.out.k).mono ?_
     intro e w52 h
     cases hv : dirsR false d (ts) with
     | error x =>
       rw [hv] at h
       obtain ⟨rfl, m⟩ := of_err h
       exact ⟨rfl, HQ.out _ _ (per (by simp only [spreadR, inlineR, E31.out, E51.out, hv, if_false, Bool.false_eq_true]) (K32.out.mv.trans m))⟩
     | ok p =>
       obtain ⟨ds, tp52⟩ := p
       rw [hv] at h
       obtain ⟨⟨v, rfl, hl⟩, rr, mm⟩ := of_ok h
       obtain ⟨A4, kA4, rfl, hts⟩ := row_open hl
       have G53 := Hd (G0.out.sub (dirs_sfx hv))
       have L54 := Hd (((dirs_sfx hv)).trans L0.out)
       have K55 := Hd (K32.out.next rr mm)
       have O56 := Hd (Ov.of hts K32.out.blt)
       have E57 := Hd hv
       clear rr mm hv hl hts h
       obtain ⟨y0, y1, y2, y3, y4, y5, y6, yz⟩ := svc K55.out.loc
       have yf0 := yz 0
       have yf1 := yz 1
       have yf2 := yz 2
       have yf3 := yz 3
       have yf4 := yz 4
       have yf5 := yz 5
       have yf6 := yz 6
       clear yz
       go_wp2_with fail
       clear y0 y1 y2 y3 y4 y5 y6 yf0 yf1 yf2 yf3 yf4 yf5 yf6
       have K58 : Hid (S1 w r (w52.setCell ⟨w.heap.size + 1, 4, none⟩ (.slice A4 (rowOf encD ds).len kA4)) _ (w.heap.size + 1) (.cells #[.int .i64 2, .string ⟨#[]⟩, .string ⟨#[]⟩, .slice none 0 0, .slice A4 (rowOf encD ds).len kA4, .string ⟨#[]⟩, .slice none 0 0] 72 (0, 0)) _ d) := Hd (K55.out.put 4 (.slice A4 (rowOf encD ds).len kA4))
       have O59 : Hid (Ov (w.heap.size + 1) (w52.setCell ⟨w.heap.size + 1, 4, none⟩ (.slice A4 (rowOf encD ds).len kA4)) _ _) := Hd (O56.out.put (i := 4) (v := .slice A4 (rowOf encD ds).len kA4) (Nat.le_refl _))
       refine (HSS.out (tp52) _ G53.out (L54.out.length_le) K58.out.rd K58.out.k).mono ?_
       intro e w60 h
       cases hv : S (tp52) with
       | error x =>
         rw [hv] at h
         obtain ⟨rfl, m⟩ := of_err h
         exact ⟨rfl, HQ.out _ _ (per (by simp only [spreadR, inlineR, E31.out, E51.out, E57.out, hv, if_false, Bool.false_eq_true]) (K58.out.mv.trans m))⟩
       | ok p =>
         obtain ⟨sq, tp60⟩ := p
         rw [hv] at h
         obtain ⟨⟨v, rfl, hl⟩, rr, mm⟩ := of_ok h
         obtain ⟨A6, kA6, rfl, hts⟩ := row_open hl
         have G61 := Hd (G53.out.sub (HFF.out _ _ _ hv).1)
         have L62 := Hd (((HFF.out _ _ _ hv).1).trans L54.out)
         have K63 := Hd (K58.out.next rr mm)
         have O64 := Hd (O59.out.next mm K58.out.rb)
         have O65 := Hd (Ov.of hts K58.out.blt)
         have E66 := Hd hv
         clear rr mm hv hl hts h
         obtain ⟨y0, y1, y2, y3, y4, y5, y6, yz⟩ := svc K63.out.loc
         have yf0 := yz 0
         have yf1 := yz 1
         have yf2 := yz 2
         have yf3 := yz 3
         have yf4 := yz 4
         have yf5 := yz 5
         have yf6 := yz 6
         clear yz
         obtain ⟨x0, x1, x2, x3, x4, x5, x6, xz⟩ := svc K63.out.res
         have xf0 := xz 0
         have xf1 := xz 1
         have xf2 := xz 2
         have xf3 := xz 3
         have xf4 := xz 4
         have xf5 := xz 5
         have xf6 := xz 6
         clear xz
         go_wp2_with fail
         clear y0 y1 y2 y3 y4 y5 y6 yf0 yf1 yf2 yf3 yf4 yf5 yf6 x0 x1 x2 x3 x4 x5 x6 xf0 xf1 xf2 xf3 xf4 xf5 xf6
         have K67 : Hid (S1 w r (w60.setCell ⟨w.heap.size + 1, 6, none⟩ (.slice A6 (encSL sq).len kA6)) _ (w.heap.size + 1) (.cells #[.int .i64 2, .string ⟨#[]⟩, .string ⟨#[]⟩, .slice none 0 0, .slice A4 (rowOf encD ds).len kA4, .string ⟨#[]⟩, .slice A6 (encSL sq).len kA6] 72 (0, 0)) _ d) := Hd (K63.out.put 6 (.slice A6 (encSL sq).len kA6))
         have O68 : Hid (Ov (w.heap.size + 1) (w60.setCell ⟨w.heap.size + 1, 6, none⟩ (.slice A6 (encSL sq).len kA6)) _ _) := Hd (O64.out.put (i := 6) (v := .slice A6 (encSL sq).len kA6) (Nat.le_refl _))
         have O69 : Hid (Ov (w.heap.size + 1) (w60.setCell ⟨w.heap.size + 1, 6, none⟩ (.slice A6 (encSL sq).len kA6)) _ _) := Hd (O65.out.put (i := 6) (v := .slice A6 (encSL sq).len kA6) (Nat.le_refl _))
         obtain ⟨f1, f2, f3⟩ := S1.fin (ys := [.int .i64 0, .string ⟨#[]⟩, .string ⟨#[]⟩, .slice none 0 0, .slice none 0 0, .string ⟨#[]⟩, .slice none 0 0]) K67.out [.int .i64 2, .string ⟨#[]⟩, .string ⟨#[]⟩, .slice none 0 0, .slice A4 (rowOf encD ds).len kA4, .string ⟨#[]⟩, .slice A6 (encSL sq).len kA6] rfl
         have Fd := O68.out.fin (w := w) (Nat.le_of_lt K67.out.bl) [.int .i64 2, .string ⟨#[]⟩, .string ⟨#[]⟩, .slice none 0 0, .slice A4 (rowOf encD ds).len kA4, .string ⟨#[]⟩, .slice A6 (encSL sq).len kA6]
         have Fs := O69.out.fin (w := w) (Nat.le_of_lt K67.out.bl) [.int .i64 2, .string ⟨#[]⟩, .string ⟨#[]⟩, .slice none 0 0, .slice A4 (rowOf encD ds).len kA4, .string ⟨#[]⟩, .slice A6 (encSL sq).len kA6]
         have FP := HQ.out _ _ (post_ok (a := .mk 2 eB eB .nil ds eB sq) (by simp only [spreadR, inlineR, E31.out, E51.out, E57.out, E66.out, if_false, Bool.false_eq_true]) ⟨[.int .i64 2, .string ⟨#[]⟩, .string ⟨#[]⟩, .slice none 0 0, .slice A4 (rowOf encD ds).len kA4, .string ⟨#[]⟩, .slice A6 (encSL sq).len kA6], rfl, (by rw [encS]; exact TS.int (TS.str (Nat.zero_le _) (TS.str (Nat.zero_le _) (TS.row (show TP _ _ (.row (encM .nil)) _ by rw [encM]; exact TP.none _ _) (TS.row Fd (TS.str (Nat.zero_le _) (TS.row Fs (TS.nil _ _))))))))⟩ f2 f3)
         exact ret_st rfl rfl rfl f1 Tryz.underlying72 ⟨_, rfl⟩ (by kernel_rfl) FP
end Go.Proofs.YtpkmbhnikilihaaGreatDoor
