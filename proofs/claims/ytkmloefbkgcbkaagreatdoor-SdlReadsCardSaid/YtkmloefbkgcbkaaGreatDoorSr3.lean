/- The walks of seineref1.Same and seineref1.Members: by induction on the tree. -/
import Derived.Test.YtkmloefbkgcbkaaGreatDoorSr2
set_option maxRecDepth 100000
set_option maxHeartbeats 8000000
namespace Go.Proofs.YtkmloefbkgcbkaaGreatDoor
open Go.RowKit
theorem Za {p:Prop} (h:p):Aside p:=h
theorem Zqw {B:Nat} {a w:World} (h:Below B a w) (n:Nat):Below B a (w.drewN n):=⟨h.os,h.tape,h.output,h.size,h.block⟩
theorem VL.ext:∀ {l l':VL},l.len=l'.len→(∀ j,j < l.len→l.get j=l'.get j)→l=l'
 | .nil,.nil,_,_=>rfl
 | .nil,.cons _ _,h,_=>by simp [VL.len] at h
 | .cons _ _,.nil,h,_=>by simp [VL.len] at h
 | .cons u t,.cons u' t',h,hg=>by
   have h0:u=u':=by simpa [VL.get] using hg 0 (by rw [VL.len];omega)
   have ht:t=t':=VL.ext (by simp only [VL.len] at h;omega) (fun j hj=>by simpa [VL.get] using hg (j+1) (by rw [VL.len];omega));rw [h0,ht]
theorem VM.ext:∀ {l l':VM},l.len=l'.len→(∀ j,j < l.len→l.get j=l'.get j)→l=l'
 | .nil,.nil,_,_=>rfl
 | .nil,.cons _ _ _,h,_=>by simp [VM.len] at h
 | .cons _ _ _,.nil,h,_=>by simp [VM.len] at h
 | .cons x u t,.cons x' u' t',h,hg=>by
   have h0:x=x'∧u=u':=by simpa [VM.get] using hg 0 (by rw [VM.len];omega)
   have ht:t=t':=VM.ext (by simp only [VM.len] at h;omega) (fun j hj=>by simpa [VM.get] using hg (j+1) (by rw [VM.len];omega));rw [h0.1,h0.2,ht]
def Ph (l l':VL) (q:Nat):Prop:=∀ j,j < q→l.get j=l'.get j
def Pq (l l':VM) (q:Nat):Prop:=∀ j,j < q→l.get j=l'.get j
theorem Ph.next {l l':VL} {q:Nat} {v:VT} (h:Ph l l' q) (h1:l.get q=some v) (h2:l'.get q=some v):Ph l l' (q+1):=fun j hj=>by
 rcases Nat.lt_or_ge j q with h'|h'
 · exact h j h'
 · obtain rfl:j=q:=by omega
   rw [h1,h2]
theorem Pq.next {l l':VM} {q:Nat} {v:ByteArray × VT} (h:Pq l l' q) (h1:l.get q=some v) (h2:l'.get q=some v):Pq l l' (q+1):=fun j hj=>by
 rcases Nat.lt_or_ge j q with h'|h'
 · exact h j h'
 · obtain rfl:j=q:=by omega
   rw [h1,h2]
def Rh (u:VT):Prop:=∀ (v:VT) (c0 c1 c2 c3 c4 d0 d1 d2 d3 d4:Value) (w:World) (B:Nat),B≤w.heap.size→VAt w B u c0 c1 c2 c3 c4→VAt w B v d0 d1 d2 d3 d4 →
 Calls Tryz.prog 70 #[.agg #[c0,c1,c2,c3,c4],.agg #[d0,d1,d2,d3,d4]] w fun e w'=>(∃ b,e=.returned (.bool b)∧(b=true ↔ u=v))∧Below w.heap.size w w'
def Ypw (m:VM):Prop:=∀ (m':VM) (A A':Option Addr) (c c':Nat) (w:World) (B:Nat),B≤w.heap.size→m.len≤9223372036854775807→m'.len≤9223372036854775807→MAt w B m A 0→MAt w B m' A' 0 →
 Calls Tryz.prog 99 #[.slice A m.len c,.slice A' m'.len c'] w fun e w'=>(∃ b,e=.returned (.bool b)∧(b=true ↔ m=m'))∧Below w.heap.size w w'
theorem N8 {p q:Prop} {b:Bool} (h:b=true ↔ p) (hq:q):(∃ b',Ending.returned (.bool b)=.returned (.bool b')∧(b'=true ↔ p))∧q:=⟨⟨b,rfl,h⟩,hq⟩
theorem Yob {p:Prop} (h:p):true=true ↔ p:=⟨fun _=>h,fun _=>rfl⟩
theorem Oi {p:Prop} (h : ¬ p):false=true ↔ p:=⟨fun e=>by simp at e,fun e=>absurd e h⟩
theorem Rh.yes {u v:VT} (h:Rh u) (e:u=v) (c0 c1 c2 c3 c4 d0 d1 d2 d3 d4:Value) (w:World) (B:Nat) (hB:B≤w.heap.size) (h1:VAt w B u c0 c1 c2 c3 c4) (h2:VAt w B v d0 d1 d2 d3 d4) :
  Calls Tryz.prog 70 #[.agg #[c0,c1,c2,c3,c4],.agg #[d0,d1,d2,d3,d4]] w fun e w'=>e=.returned (.bool true)∧Below w.heap.size w w':=by
 refine (h v c0 c1 c2 c3 c4 d0 d1 d2 d3 d4 w B hB h1 h2).mono ?_;rintro e' w' ⟨⟨b,rfl,hb⟩,hw⟩;rw [hb.2 e];exact ⟨rfl,hw⟩
theorem Rh.no {u v:VT} (h:Rh u) (e : ¬ u=v) (c0 c1 c2 c3 c4 d0 d1 d2 d3 d4:Value) (w:World) (B:Nat) (hB:B≤w.heap.size) (h1:VAt w B u c0 c1 c2 c3 c4) (h2:VAt w B v d0 d1 d2 d3 d4) :
  Calls Tryz.prog 70 #[.agg #[c0,c1,c2,c3,c4],.agg #[d0,d1,d2,d3,d4]] w fun e w'=>e=.returned (.bool false)∧Below w.heap.size w w':=by
 refine (h v c0 c1 c2 c3 c4 d0 d1 d2 d3 d4 w B hB h1 h2).mono ?_;rintro e' w' ⟨⟨b,rfl,hb⟩,hw⟩;have:b=false:=by cases b;rfl;exact absurd (hb.1 rfl) e
 rw [this];exact ⟨rfl,hw⟩
def KE (w:World) (b O:Nat) (nm d0 d1 d2 d3 d4:Value) (b' O':Nat) (nm' f0 f1 f2 f3 f4:Value) (W:World):Prop:=
 W.cell? ⟨b,O,none⟩=some nm∧Nj W b (O+1) d0 d1 d2 d3 d4∧W.cell? ⟨b',O',none⟩=some nm'∧Nj W b' (O'+1) f0 f1 f2 f3 f4∧Below w.heap.size w W
theorem KE.next {w W W':World} {b O:Nat} {nm d0 d1 d2 d3 d4:Value} {b' O':Nat} {nm' f0 f1 f2 f3 f4:Value} (h:KE w b O nm d0 d1 d2 d3 d4 b' O' nm' f0 f1 f2 f3 f4 W) (hl:b < w.heap.size) (hl':b' < w.heap.size) (hb:Below W.heap.size W W'):KE w b O nm d0 d1 d2 d3 d4 b' O' nm' f0 f1 f2 f3 f4 W':=by
 obtain ⟨h1,h2,h3,h4,hB⟩:=h;have g:=Nat.lt_of_lt_of_le hl hB.size;have g':=Nat.lt_of_lt_of_le hl' hB.size;exact ⟨(hb.cell (p:=⟨b,_,none⟩) g).trans h1,h2.below hb g,(hb.cell (p:=⟨b',_,none⟩) g').trans h3,h4.below hb g',hB.trans (hb.mono hB.size)⟩
theorem KE.written {w W:World} {b O:Nat} {nm d0 d1 d2 d3 d4:Value} {b' O':Nat} {nm' f0 f1 f2 f3 f4:Value} (h:KE w b O nm d0 d1 d2 d3 d4 b' O' nm' f0 f1 f2 f3 f4 W) :
  W.cell? ⟨b,O,none⟩=some nm∧W.cell? ⟨b,O+1,none⟩=some d0∧W.cell? ⟨b,O+1+1,none⟩=some d1∧W.cell? ⟨b,O+1+2,none⟩=some d2∧W.cell? ⟨b,O+1+3,none⟩=some d3∧W.cell? ⟨b,O+1+4,none⟩=some d4 ∧
  W.cell? ⟨b',O',none⟩=some nm'∧W.cell? ⟨b',O'+1,none⟩=some f0∧W.cell? ⟨b',O'+1+1,none⟩=some f1∧W.cell? ⟨b',O'+1+2,none⟩=some f2∧W.cell? ⟨b',O'+1+3,none⟩=some f3∧W.cell? ⟨b',O'+1+4,none⟩=some f4 ∧
  KE w b O nm d0 d1 d2 d3 d4 b' O' nm' f0 f1 f2 f3 f4 W:=
 ⟨h.1,h.2.1.1,h.2.1.2.1,h.2.1.2.2.1,h.2.1.2.2.2.1,h.2.1.2.2.2.2,h.2.2.1,h.2.2.2.1.1,h.2.2.2.1.2.1,h.2.2.2.1.2.2.1,h.2.2.2.1.2.2.2.1,h.2.2.2.1.2.2.2.2,h⟩
theorem Zxz (N:Nat) (H:∀ u,Uq u≤N→Rh u):∀ m,Ea m≤N→Ypw m:=by
 intro m hm m' A A' c c' w B hB hl hl' h1 h2;have H1:=Hd h1;have H2:=Hd h2;have HS:=Hd H;have HB0:=Hd hB;clear h1 h2 H hB
 by_cases hlen:m.len=m'.len
 · generalize hn:m.len=n at *
   have HN:=Hd hn;have HN':=Hd hlen;subst hlen;clear hn;have e0:((m'.len:Int) != (m'.len:Int))=false:=by simp
   go_enter Tryz.func99,Tryz.ntmps99
   go_wp2_with fail
   go_loopg [5] m'.len (fun g i wx=>∃ q:Nat,q+g=m'.len∧i=.int .i64 q∧Below w.heap.size w wx∧Aside (Pq m m' q))
   case atStart=>exact ⟨0,by omega,rfl,Below.refl _ _,Za (fun j hj=>by omega)⟩
   case round =>
    obtain ⟨q,hq,rfl,hb,HA⟩:=hrel;have HBB:=Hd hb;clear hb
    cases gk with
    | zero =>
      obtain rfl:q=m'.len:=by omega
      have hE:Hid (m=m'):=Hd (VM.ext HN.out (by rw [HN.out];exact HA.out));clear HA;go_wp2_with fail
      go_ret
      exact N8 (Yob hE.out) HBB.out
    | succ g =>
      have hqn:q < m'.len:=by omega
      have hqn':(q:Int) < (m'.len:Int):=by omega
      obtain ⟨⟨nm,v⟩,hv⟩:=VM.get_lt (l:=m) (j:=q) (by rw [HN.out];exact hqn);obtain ⟨⟨nm',v'⟩,hv'⟩:=VM.get_lt hqn;have hvN:=Az hv;obtain ⟨b,o,d0,d1,d2,d3,d4,rfl,hblt,hnm,hns,hF,hV⟩:=MAt.at (MAt.below (HBB.out.mono HB0.out) _ _ _ H1.out) hv;obtain ⟨b',o',f0,f1,f2,f3,f4,rfl,hblt',hnm',hns',hF',hV'⟩:=MAt.at (MAt.below (HBB.out.mono HB0.out) _ _ _ H2.out) hv';rw [Nat.zero_add] at hF hnm hF' hnm';have hE:=Hd hv;have hE':=Hd hv';clear hv hv'
      by_cases hnn:nm=nm'
      · subst hnn
        have e1:(nm.toList != nm.toList)=false:=by simp
        have e1':(nm.toList == nm.toList)=true:=by simp
        have HBW:Hid (b < w.heap.size):=Hd (Nat.lt_of_lt_of_le hblt HB0.out);have HBW':Hid (b' < w.heap.size):=Hd (Nat.lt_of_lt_of_le hblt' HB0.out);have hE0:KE w b (o+q*6) (.string nm) d0 d1 d2 d3 d4 b' (o'+q*6) (.string nm) f0 f1 f2 f3 f4 wr:=⟨hnm,hF,hnm',hF',HBB.out⟩;obtain ⟨g0,g1,g2,g3,g4⟩:=hF;obtain ⟨g5,g6,g7,g8,g9⟩:=hF'
        by_cases hvv:v=v'
        · subst hvv
          have C:=fun (wx:World) (hx:Below wr.heap.size wr wx)=>Hd ((HS.out v (by omega)).yes rfl d0 d1 d2 d3 d4 f0 f1 f2 f3 f4 wx B (Nat.le_trans HB0.out (Nat.le_trans HBB.out.size hx.size)) (VAt.below (hx.mono (Nat.le_trans HB0.out HBB.out.size)) _ _ _ _ _ _ hV) (VAt.below (hx.mono (Nat.le_trans HB0.out HBB.out.size)) _ _ _ _ _ _ hV'));have hnx:Hid (Pq m m' (q+1)):=Hd (Pq.next HA.out hE.out hE'.out);clear hV hV' HA hvN hblt hblt';go_wp2_with fail
          go_region_held3 (fun w'=>w'.cell? ⟨b,o+q*6,none⟩=some (.string nm)∧w'.cell? ⟨b,o+q*6+1,none⟩=some d0∧w'.cell? ⟨b,o+q*6+1+1,none⟩=some d1∧w'.cell? ⟨b,o+q*6+1+2,none⟩=some d2∧w'.cell? ⟨b,o+q*6+1+3,none⟩=some d3∧w'.cell? ⟨b,o+q*6+1+4,none⟩=some d4∧w'.cell? ⟨b',o'+q*6,none⟩=some (.string nm)∧w'.cell? ⟨b',o'+q*6+1,none⟩=some f0∧w'.cell? ⟨b',o'+q*6+1+1,none⟩=some f1∧w'.cell? ⟨b',o'+q*6+1+2,none⟩=some f2∧w'.cell? ⟨b',o'+q*6+1+3,none⟩=some f3∧w'.cell? ⟨b',o'+q*6+1+4,none⟩=some f4∧KE w b (o+q*6) (.string nm) d0 d1 d2 d3 d4 b' (o'+q*6) (.string nm) f0 f1 f2 f3 f4 w')
           (first
            | exact KE.written (KE.next hE0 HBW.out HBW'.out (Below.drew (Below.refl _ _)))
            | exact KE.written ((KE.next hE0 HBW.out HBW'.out (Below.drew (Below.refl _ _))).next HBW.out HBW'.out (by assumption))
            | exact KE.written (KE.next hE0 HBW.out HBW'.out (by assumption))
            | exact KE.written (KE.next (by assumption) HBW.out HBW'.out (by assumption))
            | go_keep)
           ((first|(go_at_call 70;refine (C _ (by first|exact Below.drew (Below.refl _ _)|exact Below.refl _ _|assumption)).out.mono ?_;rintro e w' ⟨rfl,hb⟩)))
          all_goals
           have HKM:KE w b (o+q*6) (.string nm) d0 d1 d2 d3 d4 b' (o'+q*6) (.string nm) f0 f1 f2 f3 f4 w':=And.right (And.right (And.right (And.right (And.right (And.right (And.right (And.right (And.right (And.right (And.right (And.right (by assumption))))))))))));have HKB:=Hd HKM.2.2.2.2;clear HKM hE0 C g0 g1 g2 g3 g4 g5 g6 g7 g8 g9;go_wp2_with fail
           go_roundg g
           case measure=>omega
           case rel=>exact ⟨q+1,by omega,by go_num,HKB.out,Za hnx.out⟩
        · have C:=fun (wx:World) (hx:Below wr.heap.size wr wx)=>Hd ((HS.out v (by omega)).no hvv d0 d1 d2 d3 d4 f0 f1 f2 f3 f4 wx B (Nat.le_trans HB0.out (Nat.le_trans HBB.out.size hx.size)) (VAt.below (hx.mono (Nat.le_trans HB0.out HBB.out.size)) _ _ _ _ _ _ hV) (VAt.below (hx.mono (Nat.le_trans HB0.out HBB.out.size)) _ _ _ _ _ _ hV'))
          have hno:Hid (¬ m=m'):=Hd (fun h=>by
           subst h;have:=hE.out.symm.trans hE'.out;simp only [Option.some.injEq,Prod.mk.injEq] at this;exact hvv this.2)
          clear hV hV' HA hvN hblt hblt' hvv;go_wp2_with fail
          go_region_held3 (fun w'=>w'.cell? ⟨b,o+q*6,none⟩=some (.string nm)∧w'.cell? ⟨b,o+q*6+1,none⟩=some d0∧w'.cell? ⟨b,o+q*6+1+1,none⟩=some d1∧w'.cell? ⟨b,o+q*6+1+2,none⟩=some d2∧w'.cell? ⟨b,o+q*6+1+3,none⟩=some d3∧w'.cell? ⟨b,o+q*6+1+4,none⟩=some d4∧w'.cell? ⟨b',o'+q*6,none⟩=some (.string nm)∧w'.cell? ⟨b',o'+q*6+1,none⟩=some f0∧w'.cell? ⟨b',o'+q*6+1+1,none⟩=some f1∧w'.cell? ⟨b',o'+q*6+1+2,none⟩=some f2∧w'.cell? ⟨b',o'+q*6+1+3,none⟩=some f3∧w'.cell? ⟨b',o'+q*6+1+4,none⟩=some f4∧KE w b (o+q*6) (.string nm) d0 d1 d2 d3 d4 b' (o'+q*6) (.string nm) f0 f1 f2 f3 f4 w')
           (first
            | exact KE.written (KE.next hE0 HBW.out HBW'.out (Below.drew (Below.refl _ _)))
            | exact KE.written ((KE.next hE0 HBW.out HBW'.out (Below.drew (Below.refl _ _))).next HBW.out HBW'.out (by assumption))
            | exact KE.written (KE.next hE0 HBW.out HBW'.out (by assumption))
            | exact KE.written (KE.next (by assumption) HBW.out HBW'.out (by assumption))
            | go_keep)
           ((first|(go_at_call 70;refine (C _ (by first|exact Below.drew (Below.refl _ _)|exact Below.refl _ _|assumption)).out.mono ?_;rintro e w' ⟨rfl,hb⟩)))
          all_goals
           have HKM:KE w b (o+q*6) (.string nm) d0 d1 d2 d3 d4 b' (o'+q*6) (.string nm) f0 f1 f2 f3 f4 w':=And.right (And.right (And.right (And.right (And.right (And.right (And.right (And.right (And.right (And.right (And.right (And.right (by assumption))))))))))));have HKB:=Hd HKM.2.2.2.2;clear HKM hE0 C g0 g1 g2 g3 g4 g5 g6 g7 g8 g9;go_wp2_with fail
           go_ret
           exact N8 (Oi hno.out) HKB.out
      · have hne:nm.toList ≠ nm'.toList:=fun h=>hnn (by
          rw [ByteArray.toList_eq,ByteArray.toList_eq] at h;exact ByteArray.ext (Array.toList_inj.1 h))
        have e1:(nm.toList != nm'.toList)=true:=by simpa using hne
        have e1':(nm.toList == nm'.toList)=false:=by simpa using hne
        have hno:Hid (¬ m=m'):=Hd (fun h=>by
          subst h;have:=hE.out.symm.trans hE'.out;simp only [Option.some.injEq,Prod.mk.injEq] at this;exact hnn this.1)
        clear hne hnn HA hV hV' hF hF';go_wp2_with fail
        go_quiet (fail)
        go_wp2
        go_ret
        exact N8 (Oi hno.out) (Zqw HBB.out _)
 · have hno:Hid (¬ m=m'):=Hd (fun h=>hlen (by rw [h]))
   have e0:((m.len:Int) != (m'.len:Int))=true:=by simp;omega
   clear H1 H2 HS hlen
   go_enter Tryz.func99,Tryz.ntmps99
   go_wp2
   go_ret
   exact N8 (Oi hno.out) (Below.refl _ _)
def KS (w:World) (a3 a4 b3 b4:Value) (W:World):Prop:=W.cell? ⟨w.heap.size,3,none⟩=some a3∧W.cell? ⟨w.heap.size,4,none⟩=some a4∧W.cell? ⟨w.heap.size+1,3,none⟩=some b3∧W.cell? ⟨w.heap.size+1,4,none⟩=some b4∧Below w.heap.size w W∧w.heap.size+1 < W.heap.size
theorem KS.next {w W W':World} {a3 a4 b3 b4:Value} (h:KS w a3 a4 b3 b4 W) (hb:Below W.heap.size W W'):KS w a3 a4 b3 b4 W':=by
 obtain ⟨h1,h2,h3,h4,hB,hs⟩:=h;have hs0:w.heap.size < W.heap.size:=by omega
 exact ⟨(hb.cell (p:=⟨_,_,none⟩) hs0).trans h1,(hb.cell (p:=⟨_,_,none⟩) hs0).trans h2,(hb.cell (p:=⟨_,_,none⟩) hs).trans h3,(hb.cell (p:=⟨_,_,none⟩) hs).trans h4,hB.trans (hb.mono hB.size),Nat.lt_of_lt_of_le hs hb.size⟩
theorem KS.start (w:World) (c0 c1 c2 c3 c4 d0 d1 d2 d3 d4:Value) (t:TypeId):KS w c3 c4 d3 d4 ((w.alloc (.cells #[c0,c1,c2,c3,c4] t)).alloc (.cells #[d0,d1,d2,d3,d4] t)):=by
 have k0:((w.alloc (.cells #[c0,c1,c2,c3,c4] t)).alloc (.cells #[d0,d1,d2,d3,d4] t)).heap[w.heap.size]? = some (.cells #[c0,c1,c2,c3,c4] t):=by
  rw [Below.heap_alloc _ _ _ (by simp)]
  show (w.heap.push _)[w.heap.size]? = _;simp
 have k1:((w.alloc (.cells #[c0,c1,c2,c3,c4] t)).alloc (.cells #[d0,d1,d2,d3,d4] t)).heap[w.heap.size+1]? = some (.cells #[d0,d1,d2,d3,d4] t):=by
  show ((w.heap.push _).push _)[w.heap.size+1]? = _;rw [Array.getElem?_push,if_pos (by simp)]
 refine ⟨?_,?_,?_,?_,((Below.refl _ _).alloc (Nat.le_refl _) _).alloc (by simp) _,by simp⟩
 all_goals (simp only [World.cell?];first|(rw [k0];rfl)|(rw [k1];rfl))
theorem KS.below {w W:World} {a3 a4 b3 b4:Value} (h:KS w a3 a4 b3 b4 W):Below w.heap.size w W:=h.2.2.2.2.1
def KL (w:World) (a3 a4 b3 b4:Value) (b O:Nat) (d0 d1 d2 d3 d4:Value) (b' O':Nat) (f0 f1 f2 f3 f4:Value) (W:World):Prop:=
 Nj W b O d0 d1 d2 d3 d4∧Nj W b' O' f0 f1 f2 f3 f4∧KS w a3 a4 b3 b4 W
theorem KL.next {w W W':World} {a3 a4 b3 b4:Value} {b O:Nat} {d0 d1 d2 d3 d4:Value} {b' O':Nat} {f0 f1 f2 f3 f4:Value} (h:KL w a3 a4 b3 b4 b O d0 d1 d2 d3 d4 b' O' f0 f1 f2 f3 f4 W) (hl:b < w.heap.size) (hl':b' < w.heap.size) (hb:Below W.heap.size W W'):KL w a3 a4 b3 b4 b O d0 d1 d2 d3 d4 b' O' f0 f1 f2 f3 f4 W':=by
 obtain ⟨h2,h4,hK⟩:=h;have g:=Nat.lt_of_lt_of_le hl hK.below.size;have g':=Nat.lt_of_lt_of_le hl' hK.below.size;exact ⟨h2.below hb g,h4.below hb g',hK.next hb⟩
theorem KL.written {w W:World} {a3 a4 b3 b4:Value} {b O:Nat} {d0 d1 d2 d3 d4:Value} {b' O':Nat} {f0 f1 f2 f3 f4:Value} (h:KL w a3 a4 b3 b4 b O d0 d1 d2 d3 d4 b' O' f0 f1 f2 f3 f4 W) :
  W.cell? ⟨b,O,none⟩=some d0∧W.cell? ⟨b,O+1,none⟩=some d1∧W.cell? ⟨b,O+2,none⟩=some d2∧W.cell? ⟨b,O+3,none⟩=some d3∧W.cell? ⟨b,O+4,none⟩=some d4 ∧
  W.cell? ⟨b',O',none⟩=some f0∧W.cell? ⟨b',O'+1,none⟩=some f1∧W.cell? ⟨b',O'+2,none⟩=some f2∧W.cell? ⟨b',O'+3,none⟩=some f3∧W.cell? ⟨b',O'+4,none⟩=some f4 ∧
  W.cell? ⟨w.heap.size,3,none⟩=some a3∧W.cell? ⟨w.heap.size+1,3,none⟩=some b3 ∧
  KL w a3 a4 b3 b4 b O d0 d1 d2 d3 d4 b' O' f0 f1 f2 f3 f4 W:=
 ⟨h.1.1,h.1.2.1,h.1.2.2.1,h.1.2.2.2.1,h.1.2.2.2.2,h.2.1.1,h.2.1.2.1,h.2.1.2.2.1,h.2.1.2.2.2.1,h.2.1.2.2.2.2,h.2.2.1,h.2.2.2.2.1,h⟩
theorem Ya4 (N:Nat) (H:∀ u,Uq u≤N→Rh u):∀ u,Uq u≤N+1→Rh u:=by
 intro u hu v c0 c1 c2 c3 c4 d0 d1 d2 d3 d4 w B hB h1 h2;have HMB:=Hd (Zxz N H);have HS:=Hd H;have HB0:=Hd hB;clear H hB;obtain ⟨k,n,s,l,m⟩:=u;obtain ⟨k',n',s',l',m'⟩:=v;rw [Uq] at hu;unfold VAt at h1 h2;obtain ⟨rfl,rfl,rfl,hs,⟨A,c,rfl,hl,hL⟩,A2,c2',rfl,hm,hM⟩:=h1;obtain ⟨rfl,rfl,rfl,hs',⟨A',c',rfl,hl',hL'⟩,A2',c2'',rfl,hm',hM'⟩:=h2;have HL:=Hd hL;have HL':=Hd hL';have HM:=Hd hM;have HM':=Hd hM';clear hL hL' hM hM'
 by_cases q0:k=k'
 case neg =>
  have e0:(k != k')=true:=by simpa using q0
  have hno:Hid (¬ VT.mk k n s l m=.mk k' n' s' l' m'):=Hd (fun h=>q0 (by injection h));clear q0
  go_enter Tryz.func70,Tryz.ntmps70
  go_wp2_with fail
  go_ret
  exact N8 (Oi hno.out) (((Below.refl _ _).alloc (Nat.le_refl _) _).alloc (by simp) _)
 subst q0
 by_cases q1:n=n'
 case neg =>
  have e0:(n != n')=true:=by simpa using q1
  have hno:Hid (¬ VT.mk k n s l m=.mk k n' s' l' m'):=Hd (fun h=>q1 (by injection h));clear q1
  go_enter Tryz.func70,Tryz.ntmps70
  go_wp2_with fail
  go_ret
  exact N8 (Oi hno.out) (((Below.refl _ _).alloc (Nat.le_refl _) _).alloc (by simp) _)
 subst q1
 by_cases q2:s=s'
 case neg =>
  have hne:s.toList ≠ s'.toList:=fun h=>q2 (by
    rw [ByteArray.toList_eq,ByteArray.toList_eq] at h;exact ByteArray.ext (Array.toList_inj.1 h))
  have e1:(s.toList != s'.toList)=true:=by simpa using hne
  have e1':(s.toList == s'.toList)=false:=by simpa using hne
  have hno:Hid (¬ VT.mk k n s l m=.mk k n s' l' m'):=Hd (fun h=>q2 (by injection h));clear q2 hne
  go_enter Tryz.func70,Tryz.ntmps70
  go_wp2_with fail
  go_ret
  exact N8 (Oi hno.out) (((Below.refl _ _).alloc (Nat.le_refl _) _).alloc (by simp) _)
 subst q2;have z1:(s.toList != s.toList)=false:=by simp
 have z1':(s.toList == s.toList)=true:=by simp
 by_cases q3:l.len=l'.len
 case neg =>
  have e0:((l.len:Int) != (l'.len:Int))=true:=by simp;omega
  have hno:Hid (¬ VT.mk k n s l m=.mk k n s l' m'):=Hd (fun h=>q3 (by injection h with _ _ _ h _;rw [h]));clear q3
  go_enter Tryz.func70,Tryz.ntmps70
  go_wp2_with fail
  go_ret
  exact N8 (Oi hno.out) (((Below.refl _ _).alloc (Nat.le_refl _) _).alloc (by simp) _)
 generalize hn:l.len=nn at *;have HN:=Hd hn;subst q3;clear hn;have e0:((l'.len:Int) != (l'.len:Int))=false:=by simp
 go_enter Tryz.func70,Tryz.ntmps70
 go_wp2_with fail
 go_loopg [5] l'.len (fun g i wx=>∃ q:Nat,q+g=l'.len∧i=.int .i64 q∧KS w (.slice A l'.len c) (.slice A2 m.len c2') (.slice A' l'.len c') (.slice A2' m'.len c2'') wx∧Aside (Ph l l' q))
 case atStart=>exact ⟨0,by omega,rfl,KS.start _ _ _ _ _ _ _ _ _ _ _ _,Za (fun j hj=>by omega)⟩
 case round =>
  obtain ⟨q,hq,rfl,hK,HA⟩:=hrel;have K:=Hd hK;have HBB:=Hd hK.below;obtain ⟨h1,h2,h3,h4,_,_⟩:=hK
  cases gk with
  | zero =>
    obtain rfl:q=l'.len:=by omega
    have hE:Hid (l=l'):=Hd (VL.ext HN.out (by rw [HN.out];exact HA.out));clear HA;have C:=fun (wx:World) (hx:Below w.heap.size w wx)=>Hd (HMB.out m (by omega) m' A2 A2' c2' c2'' wx B (Nat.le_trans HB0.out hx.size) hm hm' (MAt.below (hx.mono HB0.out) _ _ _ HM.out) (MAt.below (hx.mono HB0.out) _ _ _ HM'.out));go_wp2_with fail
    refine (C _ HBB.out).out.mono ?_;rintro e w2 ⟨⟨b,rfl,hb⟩,hb2⟩;have Hb:=Hd hb;have Hb2:=Hd (HBB.out.trans (hb2.mono HBB.out.size));clear hb hb2 C h1 h2 h3 h4;go_wp2_with fail
    go_ret
    exact N8 ⟨fun e=>by rw [hE.out,Hb.out.1 e],fun e=>Hb.out.2 (by injection e)⟩ Hb2.out
  | succ g =>
    have hqn:q < l'.len:=by omega
    have hqn':(q:Int) < (l'.len:Int):=by omega
    obtain ⟨x,hv⟩:=VL.get_lt (l:=l) (j:=q) (by rw [HN.out];exact hqn);obtain ⟨y,hv'⟩:=VL.get_lt hqn;have hvN:=A7 hv;obtain ⟨b,o,d0,d1,d2,d3,d4,rfl,hblt,hF,hV⟩:=LAt.at (LAt.below (HBB.out.mono HB0.out) _ _ _ HL.out) hv;obtain ⟨b',o',f0,f1,f2,f3,f4,rfl,hblt',hF',hV'⟩:=LAt.at (LAt.below (HBB.out.mono HB0.out) _ _ _ HL'.out) hv';rw [Nat.zero_add] at hF hF';have hE:=Hd hv;have hE':=Hd hv';have HBW:Hid (b < w.heap.size):=Hd (Nat.lt_of_lt_of_le hblt HB0.out);have HBW':Hid (b' < w.heap.size):=Hd (Nat.lt_of_lt_of_le hblt' HB0.out);have hE0:KL w (.slice (some ⟨b,o,none⟩) l'.len c) (.slice A2 m.len c2') (.slice (some ⟨b',o',none⟩) l'.len c') (.slice A2' m'.len c2'') b (o+q*5) d0 d1 d2 d3 d4 b' (o'+q*5) f0 f1 f2 f3 f4 wr:=⟨hF,hF',K.out⟩;obtain ⟨g0,g1,g2,g3,g4⟩:=hF;obtain ⟨g5,g6,g7,g8,g9⟩:=hF';clear hv hv'
    by_cases hvv:x=y
    · subst hvv
      have C:=fun (wx:World) (hx:Below wr.heap.size wr wx)=>Hd ((HS.out x (by omega)).yes rfl d0 d1 d2 d3 d4 f0 f1 f2 f3 f4 wx B (Nat.le_trans HB0.out (Nat.le_trans HBB.out.size hx.size)) (VAt.below (hx.mono (Nat.le_trans HB0.out HBB.out.size)) _ _ _ _ _ _ hV) (VAt.below (hx.mono (Nat.le_trans HB0.out HBB.out.size)) _ _ _ _ _ _ hV'));have hnx:Hid (Ph l l' (q+1)):=Hd (Ph.next HA.out hE.out hE'.out);clear hV hV' HA hvN hblt hblt';go_wp2_with fail
      go_region_held3 (fun w'=>w'.cell? ⟨b,o+q*5,none⟩=some d0∧w'.cell? ⟨b,o+q*5+1,none⟩=some d1∧w'.cell? ⟨b,o+q*5+2,none⟩=some d2∧w'.cell? ⟨b,o+q*5+3,none⟩=some d3∧w'.cell? ⟨b,o+q*5+4,none⟩=some d4∧w'.cell? ⟨b',o'+q*5,none⟩=some f0∧w'.cell? ⟨b',o'+q*5+1,none⟩=some f1∧w'.cell? ⟨b',o'+q*5+2,none⟩=some f2∧w'.cell? ⟨b',o'+q*5+3,none⟩=some f3∧w'.cell? ⟨b',o'+q*5+4,none⟩=some f4∧w'.cell? ⟨w.heap.size,3,none⟩=some (.slice (some ⟨b,o,none⟩) l'.len c)∧w'.cell? ⟨w.heap.size+1,3,none⟩=some (.slice (some ⟨b',o',none⟩) l'.len c')∧KL w (.slice (some ⟨b,o,none⟩) l'.len c) (.slice A2 m.len c2') (.slice (some ⟨b',o',none⟩) l'.len c') (.slice A2' m'.len c2'') b (o+q*5) d0 d1 d2 d3 d4 b' (o'+q*5) f0 f1 f2 f3 f4 w')
       (first
        | exact KL.written (KL.next hE0 HBW.out HBW'.out (Below.drew (Below.refl _ _)))
        | exact KL.written ((KL.next hE0 HBW.out HBW'.out (Below.drew (Below.refl _ _))).next HBW.out HBW'.out (by assumption))
        | exact KL.written (KL.next hE0 HBW.out HBW'.out (by assumption))
        | exact KL.written (KL.next (by assumption) HBW.out HBW'.out (by assumption))
        | go_keep)
       ((first|(go_at_call 70;refine (C _ (by first|exact Below.drew (Below.refl _ _)|exact Below.refl _ _|assumption)).out.mono ?_;rintro e w' ⟨rfl,hb⟩)))
      all_goals
       have HKM:KL w (.slice (some ⟨b,o,none⟩) l'.len c) (.slice A2 m.len c2') (.slice (some ⟨b',o',none⟩) l'.len c') (.slice A2' m'.len c2'') b (o+q*5) d0 d1 d2 d3 d4 b' (o'+q*5) f0 f1 f2 f3 f4 w':=And.right (And.right (And.right (And.right (And.right (And.right (And.right (And.right (And.right (And.right (And.right (And.right (by assumption))))))))))));have HKB:=Hd HKM.2.2;clear HKM hE0 C g0 g1 g2 g3 g4 g5 g6 g7 g8 g9 h1 h2 h3 h4;go_wp2_with fail
       go_roundg g
       case measure=>omega
       case rel=>exact ⟨q+1,by omega,by go_num,HKB.out,Za hnx.out⟩
    · have C:=fun (wx:World) (hx:Below wr.heap.size wr wx)=>Hd ((HS.out x (by omega)).no hvv d0 d1 d2 d3 d4 f0 f1 f2 f3 f4 wx B (Nat.le_trans HB0.out (Nat.le_trans HBB.out.size hx.size)) (VAt.below (hx.mono (Nat.le_trans HB0.out HBB.out.size)) _ _ _ _ _ _ hV) (VAt.below (hx.mono (Nat.le_trans HB0.out HBB.out.size)) _ _ _ _ _ _ hV'))
      have hno:Hid (¬ VT.mk k n s l m=.mk k n s l' m'):=Hd (fun h=>by
       injection h with _ _ _ h _
       subst h;have:=hE.out.symm.trans hE'.out;simp only [Option.some.injEq] at this;exact hvv this)
      clear hV hV' HA hvN hblt hblt' hvv;go_wp2_with fail
      go_region_held3 (fun w'=>w'.cell? ⟨b,o+q*5,none⟩=some d0∧w'.cell? ⟨b,o+q*5+1,none⟩=some d1∧w'.cell? ⟨b,o+q*5+2,none⟩=some d2∧w'.cell? ⟨b,o+q*5+3,none⟩=some d3∧w'.cell? ⟨b,o+q*5+4,none⟩=some d4∧w'.cell? ⟨b',o'+q*5,none⟩=some f0∧w'.cell? ⟨b',o'+q*5+1,none⟩=some f1∧w'.cell? ⟨b',o'+q*5+2,none⟩=some f2∧w'.cell? ⟨b',o'+q*5+3,none⟩=some f3∧w'.cell? ⟨b',o'+q*5+4,none⟩=some f4∧w'.cell? ⟨w.heap.size,3,none⟩=some (.slice (some ⟨b,o,none⟩) l'.len c)∧w'.cell? ⟨w.heap.size+1,3,none⟩=some (.slice (some ⟨b',o',none⟩) l'.len c')∧KL w (.slice (some ⟨b,o,none⟩) l'.len c) (.slice A2 m.len c2') (.slice (some ⟨b',o',none⟩) l'.len c') (.slice A2' m'.len c2'') b (o+q*5) d0 d1 d2 d3 d4 b' (o'+q*5) f0 f1 f2 f3 f4 w')
       (first
        | exact KL.written (KL.next hE0 HBW.out HBW'.out (Below.drew (Below.refl _ _)))
        | exact KL.written ((KL.next hE0 HBW.out HBW'.out (Below.drew (Below.refl _ _))).next HBW.out HBW'.out (by assumption))
        | exact KL.written (KL.next hE0 HBW.out HBW'.out (by assumption))
        | exact KL.written (KL.next (by assumption) HBW.out HBW'.out (by assumption))
        | go_keep)
       ((first|(go_at_call 70;refine (C _ (by first|exact Below.drew (Below.refl _ _)|exact Below.refl _ _|assumption)).out.mono ?_;rintro e w' ⟨rfl,hb⟩)))
      all_goals
       have HKM:KL w (.slice (some ⟨b,o,none⟩) l'.len c) (.slice A2 m.len c2') (.slice (some ⟨b',o',none⟩) l'.len c') (.slice A2' m'.len c2'') b (o+q*5) d0 d1 d2 d3 d4 b' (o'+q*5) f0 f1 f2 f3 f4 w':=And.right (And.right (And.right (And.right (And.right (And.right (And.right (And.right (And.right (And.right (And.right (And.right (by assumption))))))))))));have HKB:=Hd HKM.2.2;clear HKM hE0 C g0 g1 g2 g3 g4 g5 g6 g7 g8 g9 h1 h2 h3 h4;go_wp2_with fail
       go_ret
       exact N8 (Oi hno.out) HKB.out.below
theorem Bj:∀ N u,Uq u≤N→Rh u
 | 0,u,h=>by cases u;rw [Uq] at h;omega
 | N+1,u,h=>Ya4 N (Bj N) u h
theorem Yen (u:VT):Rh u:=Bj _ u (Nat.le_refl _)
theorem Yex (m:VM):Ypw m:=Zxz _ (Bj (Ea m)) m (Nat.le_refl _)
end Go.Proofs.YtkmloefbkgcbkaaGreatDoor
