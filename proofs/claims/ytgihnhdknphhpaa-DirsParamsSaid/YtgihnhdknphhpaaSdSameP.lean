/- seineref6.SameParams and Texts over equal trees. (gen_sdsame.py wrote it.) -/
import Derived.Test.YtgihnhdknphhpaaPaSame
import Derived.Test.YtgihnhdknphhpaaSdM
namespace Go.Proofs.Ytgihnhdknphhpaa
open Go.RowKit

theorem encPar_len (x : VarT) : (encVar x).len = 10 := by
  unfold encVar
  simp only [TrS.len, encV_len]
theorem s_par_at {w : World} {B : Nat} {l : List VarT} {A : Option Addr} {q : Nat} {nm tn : ByteArray} {tl tm : Int} {has : Bool} {vk vn : Int} {vs : ByteArray} {vl : VL} {vm : VM} (h : RowT w (fun b => b < B) (rowOf encVar l) A) (hx : l[q]? = some ⟨nm, tn, tl, tm, has, .mk vk vn vs vl vm⟩) :
    ∃ b p Al kl Am km, A = some ⟨b, p, none⟩ ∧ b < B ∧ (w.cell? ⟨b, p + q * 10, none⟩ = some (.string nm) ∧ w.cell? ⟨b, p + q * 10 + 1, none⟩ = some (.string tn) ∧ w.cell? ⟨b, p + q * 10 + 2, none⟩ = some (.int .i64 (tl : Int)) ∧ w.cell? ⟨b, p + q * 10 + 3, none⟩ = some (.int .i64 (tm : Int)) ∧ w.cell? ⟨b, p + q * 10 + 4, none⟩ = some (.bool has) ∧ w.cell? ⟨b, p + q * 10 + 5, none⟩ = some (.int .i64 vk) ∧ w.cell? ⟨b, p + q * 10 + 6, none⟩ = some (.int .i64 vn) ∧ w.cell? ⟨b, p + q * 10 + 7, none⟩ = some (.string vs) ∧ w.cell? ⟨b, p + q * 10 + 8, none⟩ = some (.slice Al vl.len kl) ∧ w.cell? ⟨b, p + q * 10 + 9, none⟩ = some (.slice Am vm.len km)) ∧ VAt w B (.mk vk vn vs vl vm) (.int .i64 vk) (.int .i64 vn) (.string vs) (.slice Al vl.len kl) (.slice Am vm.len km) := by
  obtain ⟨b, p, cs, e, hb, hc, h1⟩ := rowOf_at 10 encPar_len h hx
  simp only [encVar, TS, TP] at h1
  obtain ⟨c0, _, rfl, ⟨rfl, _⟩, c1, _, rfl, ⟨rfl, _⟩, c2, _, rfl, ⟨rfl, _⟩, c3, _, rfl, ⟨rfl, _⟩, c4, ys, rfl, ⟨rfl, _⟩, h2⟩ := h1
  obtain ⟨d0, d1, d2, d3, d4, rfl, hv⟩ := ts_vp _ _ h2
  have hv := VP.at (fun _ h => h) _ _ _ _ _ _ hv
  have hv0 := hv
  unfold VAt at hv
  obtain ⟨rfl, rfl, rfl, _, ⟨Al, kl, rfl, _, _⟩, Am, km, rfl, _, _⟩ := hv
  exact ⟨b, p, Al, kl, Am, km, e, hb, ⟨hc 0 _ rfl, hc 1 _ rfl, hc 2 _ rfl, hc 3 _ rfl, hc 4 _ rfl, hc 5 _ rfl, hc 6 _ rfl, hc 7 _ rfl, hc 8 _ rfl, hc 9 _ rfl⟩, hv0⟩
def KP10 (w : World) (b O : Nat) (c0 c1 c2 c3 c4 c5 c6 c7 c8 c9 : Value) (b' O' : Nat) (d0 d1 d2 d3 d4 d5 d6 d7 d8 d9 : Value) (W : World) : Prop :=
  (W.cell? ⟨b, O, none⟩ = some c0 ∧ W.cell? ⟨b, O + 1, none⟩ = some c1 ∧ W.cell? ⟨b, O + 2, none⟩ = some c2 ∧ W.cell? ⟨b, O + 3, none⟩ = some c3 ∧ W.cell? ⟨b, O + 4, none⟩ = some c4 ∧ W.cell? ⟨b, O + 5, none⟩ = some c5 ∧ W.cell? ⟨b, O + 6, none⟩ = some c6 ∧ W.cell? ⟨b, O + 7, none⟩ = some c7 ∧ W.cell? ⟨b, O + 8, none⟩ = some c8 ∧ W.cell? ⟨b, O + 9, none⟩ = some c9 ∧ W.cell? ⟨b', O', none⟩ = some d0 ∧ W.cell? ⟨b', O' + 1, none⟩ = some d1 ∧ W.cell? ⟨b', O' + 2, none⟩ = some d2 ∧ W.cell? ⟨b', O' + 3, none⟩ = some d3 ∧ W.cell? ⟨b', O' + 4, none⟩ = some d4 ∧ W.cell? ⟨b', O' + 5, none⟩ = some d5 ∧ W.cell? ⟨b', O' + 6, none⟩ = some d6 ∧ W.cell? ⟨b', O' + 7, none⟩ = some d7 ∧ W.cell? ⟨b', O' + 8, none⟩ = some d8 ∧ W.cell? ⟨b', O' + 9, none⟩ = some d9) ∧ Below w.heap.size w W
theorem KP10.next {w W : World} {b O : Nat} {c0 c1 c2 c3 c4 c5 c6 c7 c8 c9 : Value} {b' O' : Nat} {d0 d1 d2 d3 d4 d5 d6 d7 d8 d9 : Value} {W' : World} (h : KP10 w b O c0 c1 c2 c3 c4 c5 c6 c7 c8 c9 b' O' d0 d1 d2 d3 d4 d5 d6 d7 d8 d9 W) (hl : b < w.heap.size) (hl' : b' < w.heap.size) (hb : Below W.heap.size W W') : KP10 w b O c0 c1 c2 c3 c4 c5 c6 c7 c8 c9 b' O' d0 d1 d2 d3 d4 d5 d6 d7 d8 d9 W' := by
  obtain ⟨⟨g0, g1, g2, g3, g4, g5, g6, g7, g8, g9, f0, f1, f2, f3, f4, f5, f6, f7, f8, f9⟩, hK⟩ := h
  have g := Nat.lt_of_lt_of_le hl hK.size
  have g' := Nat.lt_of_lt_of_le hl' hK.size
  exact ⟨⟨(hb.cell (p := ⟨b, _, none⟩) g).trans g0, (hb.cell (p := ⟨b, _, none⟩) g).trans g1, (hb.cell (p := ⟨b, _, none⟩) g).trans g2, (hb.cell (p := ⟨b, _, none⟩) g).trans g3, (hb.cell (p := ⟨b, _, none⟩) g).trans g4, (hb.cell (p := ⟨b, _, none⟩) g).trans g5, (hb.cell (p := ⟨b, _, none⟩) g).trans g6, (hb.cell (p := ⟨b, _, none⟩) g).trans g7, (hb.cell (p := ⟨b, _, none⟩) g).trans g8, (hb.cell (p := ⟨b, _, none⟩) g).trans g9, (hb.cell (p := ⟨b', _, none⟩) g').trans f0, (hb.cell (p := ⟨b', _, none⟩) g').trans f1, (hb.cell (p := ⟨b', _, none⟩) g').trans f2, (hb.cell (p := ⟨b', _, none⟩) g').trans f3, (hb.cell (p := ⟨b', _, none⟩) g').trans f4, (hb.cell (p := ⟨b', _, none⟩) g').trans f5, (hb.cell (p := ⟨b', _, none⟩) g').trans f6, (hb.cell (p := ⟨b', _, none⟩) g').trans f7, (hb.cell (p := ⟨b', _, none⟩) g').trans f8, (hb.cell (p := ⟨b', _, none⟩) g').trans f9⟩, hK.trans (hb.mono hK.size)⟩
theorem KP10.written {w W : World} {b O : Nat} {c0 c1 c2 c3 c4 c5 c6 c7 c8 c9 : Value} {b' O' : Nat} {d0 d1 d2 d3 d4 d5 d6 d7 d8 d9 : Value} (h : KP10 w b O c0 c1 c2 c3 c4 c5 c6 c7 c8 c9 b' O' d0 d1 d2 d3 d4 d5 d6 d7 d8 d9 W) : W.cell? ⟨b, O, none⟩ = some c0 ∧ W.cell? ⟨b, O + 1, none⟩ = some c1 ∧ W.cell? ⟨b, O + 2, none⟩ = some c2 ∧ W.cell? ⟨b, O + 3, none⟩ = some c3 ∧ W.cell? ⟨b, O + 4, none⟩ = some c4 ∧ W.cell? ⟨b, O + 5, none⟩ = some c5 ∧ W.cell? ⟨b, O + 6, none⟩ = some c6 ∧ W.cell? ⟨b, O + 7, none⟩ = some c7 ∧ W.cell? ⟨b, O + 8, none⟩ = some c8 ∧ W.cell? ⟨b, O + 9, none⟩ = some c9 ∧ W.cell? ⟨b', O', none⟩ = some d0 ∧ W.cell? ⟨b', O' + 1, none⟩ = some d1 ∧ W.cell? ⟨b', O' + 2, none⟩ = some d2 ∧ W.cell? ⟨b', O' + 3, none⟩ = some d3 ∧ W.cell? ⟨b', O' + 4, none⟩ = some d4 ∧ W.cell? ⟨b', O' + 5, none⟩ = some d5 ∧ W.cell? ⟨b', O' + 6, none⟩ = some d6 ∧ W.cell? ⟨b', O' + 7, none⟩ = some d7 ∧ W.cell? ⟨b', O' + 8, none⟩ = some d8 ∧ W.cell? ⟨b', O' + 9, none⟩ = some d9 ∧ KP10 w b O c0 c1 c2 c3 c4 c5 c6 c7 c8 c9 b' O' d0 d1 d2 d3 d4 d5 d6 d7 d8 d9 W := by
  have h' := h
  obtain ⟨⟨g0, g1, g2, g3, g4, g5, g6, g7, g8, g9, f0, f1, f2, f3, f4, f5, f6, f7, f8, f9⟩, hK⟩ := h
  exact ⟨g0, g1, g2, g3, g4, g5, g6, g7, g8, g9, f0, f1, f2, f3, f4, f5, f6, f7, f8, f9, h'⟩
set_option maxRecDepth 100000 in
set_option maxHeartbeats 8000000 in
theorem spars_yes (l : List VarT) (A A' : Option Addr) (c c' : Nat) (w : World) (B : Nat) (hB : B ≤ w.heap.size) (hl : l.length ≤ 9223372036854775807) (h1 : RowT w (fun b => b < B) (rowOf encVar l) A) (h2 : RowT w (fun b => b < B) (rowOf encVar l) A') :
    Calls Try.prog 7 #[.slice A l.length c, .slice A' l.length c'] w fun e w' => e = .returned (.bool true) ∧ Below w.heap.size w w' := by
  have H1 := Lib.hid h1
  have H2 := Lib.hid h2
  have HB0 := Lib.hid hB
  clear h1 h2 hB
  have e0 : ((l.length : Int) != (l.length : Int)) = false := by simp
  go_enter Try.func7, Try.ntmps7
  go_wp2_with fail
  go_loopg [5] l.length (fun g i wx => ∃ q : Nat, q + g = l.length ∧ i = .int .i64 q ∧ Below w.heap.size w wx)
  case atStart => exact ⟨0, by omega, rfl, Below.refl _ _⟩
  case round =>
    obtain ⟨q, hq, rfl, hb⟩ := hrel
    have HBB := Lib.hid hb
    clear hb
    cases gk with
    | zero =>
      obtain rfl : q = l.length := by omega
      go_wp2_with fail
      go_ret
      exact ⟨rfl, HBB.out⟩
    | succ g =>
      have hqn : q < l.length := by omega
      have hqn' : (q : Int) < (l.length : Int) := by omega
      obtain ⟨⟨nm, tn, tl, tm, has, ⟨vk, vn, vs, vl, vm⟩⟩, hv⟩ : ∃ x, l[q]? = some x := ⟨_, List.getElem?_eq_getElem hqn⟩
      obtain ⟨b, o, Al, kl, Am, km, rfl, hblt, ⟨g0, g1, g2, g3, g4, g5, g6, g7, g8, g9⟩, V1⟩ := s_par_at (RowT.below (HBB.out.mono HB0.out) H1.out) hv
      obtain ⟨b', o', Al', kl', Am', km', rfl, hblt', ⟨f0, f1, f2, f3, f4, f5, f6, f7, f8, f9⟩, V2⟩ := s_par_at (RowT.below (HBB.out.mono HB0.out) H2.out) hv
      have HBX := Nat.le_trans HB0.out HBB.out.size
      have eM : (nm.toList != nm.toList) = false := by simp
      have eT : (tn.toList != tn.toList) = false := by simp
      have eT' : (tn.toList == tn.toList) = true := by simp
      have eH : (has != has) = false := by simp
      have HBW : Hid (b < w.heap.size) := Lib.hid (Nat.lt_of_lt_of_le hblt HB0.out)
      have HBW' : Hid (b' < w.heap.size) := Lib.hid (Nat.lt_of_lt_of_le hblt' HB0.out)
      have hE0 : KP10 w b (o + q * 10) (.string nm) (.string tn) (.int .i64 (tl : Int)) (.int .i64 (tm : Int)) (.bool has) (.int .i64 vk) (.int .i64 vn) (.string vs) (.slice Al vl.len kl) (.slice Am vm.len km) b' (o' + q * 10) (.string nm) (.string tn) (.int .i64 (tl : Int)) (.int .i64 (tm : Int)) (.bool has) (.int .i64 vk) (.int .i64 vn) (.string vs) (.slice Al' vl.len kl') (.slice Am' vm.len km') wr := ⟨⟨g0, g1, g2, g3, g4, g5, g6, g7, g8, g9, f0, f1, f2, f3, f4, f5, f6, f7, f8, f9⟩, HBB.out⟩
      have C := fun (wx : World) (hx : Below wr.heap.size wr wx) => Lib.hid ((vsame_any _).yes rfl (.int .i64 vk) (.int .i64 vn) (.string vs) (.slice Al vl.len kl) (.slice Am vm.len km) (.int .i64 vk) (.int .i64 vn) (.string vs) (.slice Al' vl.len kl') (.slice Am' vm.len km') wx B (Nat.le_trans HBX hx.size) (VAt.below (hx.mono HBX) _ _ _ _ _ _ V1) (VAt.below (hx.mono HBX) _ _ _ _ _ _ V2))
      clear V1 V2 hv hblt hblt' HBX
      go_wp2_with fail
      go_region_held3 (fun w' => w'.cell? ⟨b, o + q * 10, none⟩ = some (.string nm) ∧ w'.cell? ⟨b, o + q * 10 + 1, none⟩ = some (.string tn) ∧ w'.cell? ⟨b, o + q * 10 + 2, none⟩ = some (.int .i64 (tl : Int)) ∧ w'.cell? ⟨b, o + q * 10 + 3, none⟩ = some (.int .i64 (tm : Int)) ∧ w'.cell? ⟨b, o + q * 10 + 4, none⟩ = some (.bool has) ∧ w'.cell? ⟨b, o + q * 10 + 5, none⟩ = some (.int .i64 vk) ∧ w'.cell? ⟨b, o + q * 10 + 6, none⟩ = some (.int .i64 vn) ∧ w'.cell? ⟨b, o + q * 10 + 7, none⟩ = some (.string vs) ∧ w'.cell? ⟨b, o + q * 10 + 8, none⟩ = some (.slice Al vl.len kl) ∧ w'.cell? ⟨b, o + q * 10 + 9, none⟩ = some (.slice Am vm.len km) ∧ w'.cell? ⟨b', o' + q * 10, none⟩ = some (.string nm) ∧ w'.cell? ⟨b', o' + q * 10 + 1, none⟩ = some (.string tn) ∧ w'.cell? ⟨b', o' + q * 10 + 2, none⟩ = some (.int .i64 (tl : Int)) ∧ w'.cell? ⟨b', o' + q * 10 + 3, none⟩ = some (.int .i64 (tm : Int)) ∧ w'.cell? ⟨b', o' + q * 10 + 4, none⟩ = some (.bool has) ∧ w'.cell? ⟨b', o' + q * 10 + 5, none⟩ = some (.int .i64 vk) ∧ w'.cell? ⟨b', o' + q * 10 + 6, none⟩ = some (.int .i64 vn) ∧ w'.cell? ⟨b', o' + q * 10 + 7, none⟩ = some (.string vs) ∧ w'.cell? ⟨b', o' + q * 10 + 8, none⟩ = some (.slice Al' vl.len kl') ∧ w'.cell? ⟨b', o' + q * 10 + 9, none⟩ = some (.slice Am' vm.len km') ∧ KP10 w b (o + q * 10) (.string nm) (.string tn) (.int .i64 (tl : Int)) (.int .i64 (tm : Int)) (.bool has) (.int .i64 vk) (.int .i64 vn) (.string vs) (.slice Al vl.len kl) (.slice Am vm.len km) b' (o' + q * 10) (.string nm) (.string tn) (.int .i64 (tl : Int)) (.int .i64 (tm : Int)) (.bool has) (.int .i64 vk) (.int .i64 vn) (.string vs) (.slice Al' vl.len kl') (.slice Am' vm.len km') w')
        (first
          | exact KP10.written (KP10.next hE0 HBW.out HBW'.out (Below.drew (Below.refl _ _)))
          | exact KP10.written ((KP10.next hE0 HBW.out HBW'.out (Below.drew (Below.refl _ _))).next HBW.out HBW'.out (by assumption))
          | exact KP10.written (KP10.next hE0 HBW.out HBW'.out (by assumption))
          | exact KP10.written (KP10.next (by assumption) HBW.out HBW'.out (by assumption))
          | go_keep)
        ((first | (go_at_call 11; refine (C _ (by first | exact Below.drew (Below.refl _ _) | exact Below.refl _ _ | assumption)).out.mono ?_; rintro e w' ⟨rfl, hb⟩)))
      all_goals
        have HKM : KP10 w b (o + q * 10) (.string nm) (.string tn) (.int .i64 (tl : Int)) (.int .i64 (tm : Int)) (.bool has) (.int .i64 vk) (.int .i64 vn) (.string vs) (.slice Al vl.len kl) (.slice Am vm.len km) b' (o' + q * 10) (.string nm) (.string tn) (.int .i64 (tl : Int)) (.int .i64 (tm : Int)) (.bool has) (.int .i64 vk) (.int .i64 vn) (.string vs) (.slice Al' vl.len kl') (.slice Am' vm.len km') w' := And.right (And.right (And.right (And.right (And.right (And.right (And.right (And.right (And.right (And.right (And.right (And.right (And.right (And.right (And.right (And.right (And.right (And.right (And.right (And.right (by assumption))))))))))))))))))))
        have HKB := Lib.hid HKM.2
        clear HKM hE0 C g0 g1 g2 g3 g4 g5 g6 g7 g8 g9 f0 f1 f2 f3 f4 f5 f6 f7 f8 f9
        go_wp2_with fail
        go_roundg g
        case measure => omega
        case rel => exact ⟨q + 1, by omega, by go_num, HKB.out⟩
theorem str_at {w : World} {B : Nat} {l : List ByteArray} {A : Option Addr} {q : Nat} {s : ByteArray} (h : RowT w (fun b => b < B) (rowOf encStr l) A) (hx : l[q]? = some s) :
    ∃ b o, A = some ⟨b, o, none⟩ ∧ b < B ∧ w.cell? ⟨b, o + q, none⟩ = some (.string s) := by
  obtain ⟨b, o, cs, e, hb, hc, h1⟩ := rowOf_at 1 (fun _ => rfl) h hx
  simp only [encStr, TS, TP] at h1
  obtain ⟨c0, _, rfl, ⟨rfl, _⟩, rfl⟩ := h1
  have := hc 0 _ rfl
  rw [Nat.mul_one, Nat.add_zero] at this
  exact ⟨b, o, e, hb, this⟩
end Go.Proofs.Ytgihnhdknphhpaa
