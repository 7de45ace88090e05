/- The walk of seineref1.Same, and both together. -/
import Derived.Test.YtpkmbhnikilihaaGreatDoorQr0
import Derived.Laws.OwnMore
import Derived.OwnWalk
import Derived.Shelf.Strings.BuilderK
import Derived.Shelf.Strings.BuilderRune
import Derived.Test.YtpkmbhnikilihaaGreatDoorProg
import Derived.WalkLawsBesides
import Derived.Deep.CondSized
set_option maxRecDepth 100000
set_option maxHeartbeats 8000000
namespace Go.Proofs.YtpkmbhnikilihaaGreatDoor
open Go.RowKit
def KS (w:World) (a3 a4 b3 b4:Value) (W:World):Prop:=W.cell? ⟨w.heap.size,3,none⟩=some a3∧W.cell? ⟨w.heap.size,4,none⟩=some a4∧W.cell? ⟨w.heap.size+1,3,none⟩=some b3∧W.cell? ⟨w.heap.size+1,4,none⟩=some b4∧Below w.heap.size w W∧w.heap.size+1 < W.heap.size
theorem KS.next {w W W':World} {a3 a4 b3 b4:Value} (h:KS w a3 a4 b3 b4 W) (hb:Below W.heap.size W W'):KS w a3 a4 b3 b4 W':=by
 obtain ⟨h1,h2,h3,h4,hB,hs⟩:=h
 have hs0:w.heap.size < W.heap.size:=by omega
 exact ⟨(hb.cell (p:=⟨_,_,none⟩) hs0).trans h1,(hb.cell (p:=⟨_,_,none⟩) hs0).trans h2,(hb.cell (p:=⟨_,_,none⟩) hs).trans h3,(hb.cell (p:=⟨_,_,none⟩) hs).trans h4,hB.trans (hb.mono hB.size),Nat.lt_of_lt_of_le hs hb.size⟩
theorem KS.start (w:World) (c0 c1 c2 c3 c4 d0 d1 d2 d3 d4:Value) (t:TypeId):KS w c3 c4 d3 d4 ((w.alloc (.cells #[c0,c1,c2,c3,c4] t)).alloc (.cells #[d0,d1,d2,d3,d4] t)):=by
 have k0:((w.alloc (.cells #[c0,c1,c2,c3,c4] t)).alloc (.cells #[d0,d1,d2,d3,d4] t)).heap[w.heap.size]? = some (.cells #[c0,c1,c2,c3,c4] t):=by
  rw [Below.heap_alloc _ _ _ (by simp)]
  show (w.heap.push _)[w.heap.size]? = _;simp
 have k1:((w.alloc (.cells #[c0,c1,c2,c3,c4] t)).alloc (.cells #[d0,d1,d2,d3,d4] t)).heap[w.heap.size+1]? = some (.cells #[d0,d1,d2,d3,d4] t):=by
  show ((w.heap.push _).push _)[w.heap.size+1]? = _
  rw [Array.getElem?_push,if_pos (by simp)]
 refine ⟨?_,?_,?_,?_,((Below.refl _ _).alloc (Nat.le_refl _) _).alloc (by simp) _,by simp⟩
 all_goals (simp only [World.cell?];first|(rw [k0];rfl)|(rw [k1];rfl))
theorem KS.below {w W:World} {a3 a4 b3 b4:Value} (h:KS w a3 a4 b3 b4 W):Below w.heap.size w W:=h.2.2.2.2.1
def KL (w:World) (a3 a4 b3 b4:Value) (b O:Nat) (d0 d1 d2 d3 d4:Value) (b' O':Nat) (f0 f1 f2 f3 f4:Value) (W:World):Prop:=
 Ss W b O d0 d1 d2 d3 d4∧Ss W b' O' f0 f1 f2 f3 f4∧KS w a3 a4 b3 b4 W
theorem KL.next {w W W':World} {a3 a4 b3 b4:Value} {b O:Nat} {d0 d1 d2 d3 d4:Value} {b' O':Nat} {f0 f1 f2 f3 f4:Value} (h:KL w a3 a4 b3 b4 b O d0 d1 d2 d3 d4 b' O' f0 f1 f2 f3 f4 W) (hl:b < w.heap.size) (hl':b' < w.heap.size) (hb:Below W.heap.size W W'):KL w a3 a4 b3 b4 b O d0 d1 d2 d3 d4 b' O' f0 f1 f2 f3 f4 W':=by
 obtain ⟨h2,h4,hK⟩:=h
 have g:=Nat.lt_of_lt_of_le hl hK.below.size
 have g':=Nat.lt_of_lt_of_le hl' hK.below.size
 exact ⟨h2.below hb g,h4.below hb g',hK.next hb⟩
theorem KL.written {w W:World} {a3 a4 b3 b4:Value} {b O:Nat} {d0 d1 d2 d3 d4:Value} {b' O':Nat} {f0 f1 f2 f3 f4:Value} (h:KL w a3 a4 b3 b4 b O d0 d1 d2 d3 d4 b' O' f0 f1 f2 f3 f4 W) :
  W.cell? ⟨b,O,none⟩=some d0∧W.cell? ⟨b,O+1,none⟩=some d1∧W.cell? ⟨b,O+2,none⟩=some d2∧W.cell? ⟨b,O+3,none⟩=some d3∧W.cell? ⟨b,O+4,none⟩=some d4 ∧
  W.cell? ⟨b',O',none⟩=some f0∧W.cell? ⟨b',O'+1,none⟩=some f1∧W.cell? ⟨b',O'+2,none⟩=some f2∧W.cell? ⟨b',O'+3,none⟩=some f3∧W.cell? ⟨b',O'+4,none⟩=some f4 ∧
  W.cell? ⟨w.heap.size,3,none⟩=some a3∧W.cell? ⟨w.heap.size+1,3,none⟩=some b3 ∧
  KL w a3 a4 b3 b4 b O d0 d1 d2 d3 d4 b' O' f0 f1 f2 f3 f4 W:=
 ⟨h.1.1,h.1.2.1,h.1.2.2.1,h.1.2.2.2.1,h.1.2.2.2.2,h.2.1.1,h.2.1.2.1,h.2.1.2.2.1,h.2.1.2.2.2.1,h.2.1.2.2.2.2,h.2.2.1,h.2.2.2.2.1,h⟩
theorem Zxp (N:Nat) (H:∀ u,Mn u≤N→Pm u):∀ u,Mn u≤N+1→Pm u:=by
 intro u hu v c0 c1 c2 c3 c4 d0 d1 d2 d3 d4 w B hB h1 h2
 have HMB:=Hd (Zkz N H)
 have HS:=Hd H
 have HB0:=Hd hB
 clear H hB
 obtain ⟨k,n,s,l,m⟩:=u
 obtain ⟨k',n',s',l',m'⟩:=v
 rw [Mn] at hu
 unfold VAt at h1 h2
 obtain ⟨rfl,rfl,rfl,hs,⟨A,c,rfl,hl,hL⟩,A2,c2',rfl,hm,hM⟩:=h1
 obtain ⟨rfl,rfl,rfl,hs',⟨A',c',rfl,hl',hL'⟩,A2',c2'',rfl,hm',hM'⟩:=h2
 have HL:=Hd hL
 have HL':=Hd hL'
 have HM:=Hd hM
 have HM':=Hd hM'
 clear hL hL' hM hM'
 by_cases q0:k=k'
 case neg =>
  have e0:(k != k')=true:=by simpa using q0
  have hno:Hid (¬ VT.mk k n s l m=.mk k' n' s' l' m'):=Hd (fun h=>q0 (by injection h))
  clear q0
  go_enter Tryz.func21,Tryz.ntmps21
  go_wp2_with fail
  go_ret
  exact Mo (Oz hno.out) (((Below.refl _ _).alloc (Nat.le_refl _) _).alloc (by simp) _)
 subst q0
 by_cases q1:n=n'
 case neg =>
  have e0:(n != n')=true:=by simpa using q1
  have hno:Hid (¬ VT.mk k n s l m=.mk k n' s' l' m'):=Hd (fun h=>q1 (by injection h))
  clear q1
  go_enter Tryz.func21,Tryz.ntmps21
  go_wp2_with fail
  go_ret
  exact Mo (Oz hno.out) (((Below.refl _ _).alloc (Nat.le_refl _) _).alloc (by simp) _)
 subst q1
 by_cases q2:s=s'
 case neg =>
  have hne:s.toList ≠ s'.toList:=fun h=>q2 (by
    rw [ByteArray.toList_eq,ByteArray.toList_eq] at h
    exact ByteArray.ext (Array.toList_inj.1 h))
  have e1:(s.toList != s'.toList)=true:=by simpa using hne
  have e1':(s.toList == s'.toList)=false:=by simpa using hne
  have hno:Hid (¬ VT.mk k n s l m=.mk k n s' l' m'):=Hd (fun h=>q2 (by injection h))
  clear q2 hne
  go_enter Tryz.func21,Tryz.ntmps21
  go_wp2_with fail
  go_ret
  exact Mo (Oz hno.out) (((Below.refl _ _).alloc (Nat.le_refl _) _).alloc (by simp) _)
 subst q2
 have z1:(s.toList != s.toList)=false:=by simp
 have z1':(s.toList == s.toList)=true:=by simp
 by_cases q3:l.len=l'.len
 case neg =>
  have e0:((l.len:Int) != (l'.len:Int))=true:=by simp;omega
  have hno:Hid (¬ VT.mk k n s l m=.mk k n s l' m'):=Hd (fun h=>q3 (by injection h with _ _ _ h _;rw [h]))
  clear q3
  go_enter Tryz.func21,Tryz.ntmps21
  go_wp2_with fail
  go_ret
  exact Mo (Oz hno.out) (((Below.refl _ _).alloc (Nat.le_refl _) _).alloc (by simp) _)
 generalize hn:l.len=nn at *
 have HN:=Hd hn
 subst q3
 clear hn
 have e0:((l'.len:Int) != (l'.len:Int))=false:=by simp
 go_enter Tryz.func21,Tryz.ntmps21
 go_wp2_with fail
 go_loopg [5] l'.len (fun g i wx=>∃ q:Nat,q+g=l'.len∧i=.int .i64 q∧KS w (.slice A l'.len c) (.slice A2 m.len c2') (.slice A' l'.len c') (.slice A2' m'.len c2'') wx∧Aside (Nw l l' q))
 case atStart=>exact ⟨0,by omega,rfl,KS.start _ _ _ _ _ _ _ _ _ _ _ _,Zu (fun j hj=>by omega)⟩
 case round =>
  obtain ⟨q,hq,rfl,hK,HA⟩:=hrel
  have K:=Hd hK
  have HBB:=Hd hK.below
  obtain ⟨h1,h2,h3,h4,_,_⟩:=hK
  cases gk with
  | zero =>
    obtain rfl:q=l'.len:=by omega
    have hE:Hid (l=l'):=Hd (VL.ext HN.out (by rw [HN.out];exact HA.out))
    clear HA
    have C:=fun (wx:World) (hx:Below w.heap.size w wx)=>Hd (HMB.out m (by omega) m' A2 A2' c2' c2'' wx B (Nat.le_trans HB0.out hx.size) hm hm' (MAt.below (hx.mono HB0.out) _ _ _ HM.out) (MAt.below (hx.mono HB0.out) _ _ _ HM'.out))
    go_wp2_with fail
    refine (C _ HBB.out).out.mono ?_
    rintro e w2 ⟨⟨b,rfl,hb⟩,hb2⟩
    have Hb:=Hd hb
    have Hb2:=Hd (HBB.out.trans (hb2.mono HBB.out.size))
    clear hb hb2 C h1 h2 h3 h4
    go_wp2_with fail
    go_ret
    exact Mo ⟨fun e=>by rw [hE.out,Hb.out.1 e],fun e=>Hb.out.2 (by injection e)⟩ Hb2.out
  | succ g =>
    have hqn:q < l'.len:=by omega
    have hqn':(q:Int) < (l'.len:Int):=by omega
    obtain ⟨x,hv⟩:=VL.get_lt (l:=l) (j:=q) (by rw [HN.out];exact hqn)
    obtain ⟨y,hv'⟩:=VL.get_lt hqn
    have hvN:=Sc hv
    obtain ⟨b,o,d0,d1,d2,d3,d4,rfl,hblt,hF,hV⟩:=LAt.at (LAt.below (HBB.out.mono HB0.out) _ _ _ HL.out) hv
    obtain ⟨b',o',f0,f1,f2,f3,f4,rfl,hblt',hF',hV'⟩:=LAt.at (LAt.below (HBB.out.mono HB0.out) _ _ _ HL'.out) hv'
    rw [Nat.zero_add] at hF hF'
    have hE:=Hd hv
    have hE':=Hd hv'
    have HBW:Hid (b < w.heap.size):=Hd (Nat.lt_of_lt_of_le hblt HB0.out)
    have HBW':Hid (b' < w.heap.size):=Hd (Nat.lt_of_lt_of_le hblt' HB0.out)
    have hE0:KL w (.slice (some ⟨b,o,none⟩) l'.len c) (.slice A2 m.len c2') (.slice (some ⟨b',o',none⟩) l'.len c') (.slice A2' m'.len c2'') b (o+q*5) d0 d1 d2 d3 d4 b' (o'+q*5) f0 f1 f2 f3 f4 wr:=⟨hF,hF',K.out⟩
    obtain ⟨g0,g1,g2,g3,g4⟩:=hF
    obtain ⟨g5,g6,g7,g8,g9⟩:=hF'
    clear hv hv'
    by_cases hvv:x=y
    · subst hvv
      have C:=fun (wx:World) (hx:Below wr.heap.size wr wx)=>Hd ((HS.out x (by omega)).yes rfl d0 d1 d2 d3 d4 f0 f1 f2 f3 f4 wx B (Nat.le_trans HB0.out (Nat.le_trans HBB.out.size hx.size)) (VAt.below (hx.mono (Nat.le_trans HB0.out HBB.out.size)) _ _ _ _ _ _ hV) (VAt.below (hx.mono (Nat.le_trans HB0.out HBB.out.size)) _ _ _ _ _ _ hV'))
      have hnx:Hid (Nw l l' (q+1)):=Hd (Nw.next HA.out hE.out hE'.out)
      clear hV hV' HA hvN hblt hblt'
      go_wp2_with fail
      go_region_held3 (fun w'=>w'.cell? ⟨b,o+q*5,none⟩=some d0∧w'.cell? ⟨b,o+q*5+1,none⟩=some d1∧w'.cell? ⟨b,o+q*5+2,none⟩=some d2∧w'.cell? ⟨b,o+q*5+3,none⟩=some d3∧w'.cell? ⟨b,o+q*5+4,none⟩=some d4∧w'.cell? ⟨b',o'+q*5,none⟩=some f0∧w'.cell? ⟨b',o'+q*5+1,none⟩=some f1∧w'.cell? ⟨b',o'+q*5+2,none⟩=some f2∧w'.cell? ⟨b',o'+q*5+3,none⟩=some f3∧w'.cell? ⟨b',o'+q*5+4,none⟩=some f4∧w'.cell? ⟨w.heap.size,3,none⟩=some (.slice (some ⟨b,o,none⟩) l'.len c)∧w'.cell? ⟨w.heap.size+1,3,none⟩=some (.slice (some ⟨b',o',none⟩) l'.len c')∧KL w (.slice (some ⟨b,o,none⟩) l'.len c) (.slice A2 m.len c2') (.slice (some ⟨b',o',none⟩) l'.len c') (.slice A2' m'.len c2'') b (o+q*5) d0 d1 d2 d3 d4 b' (o'+q*5) f0 f1 f2 f3 f4 w')
       (first
        | exact KL.written (KL.next hE0 HBW.out HBW'.out (Below.drew (Below.refl _ _)))
        | exact KL.written ((KL.next hE0 HBW.out HBW'.out (Below.drew (Below.refl _ _))).next HBW.out HBW'.out (by assumption))
        | exact KL.written (KL.next hE0 HBW.out HBW'.out (by assumption))
        | exact KL.written (KL.next (by assumption) HBW.out HBW'.out (by assumption))
        | go_keep)
       ((first|(go_at_call 21;refine (C _ (by first|exact Below.drew (Below.refl _ _)|exact Below.refl _ _|assumption)).out.mono ?_;rintro e w' ⟨rfl,hb⟩)))
      all_goals
       have HKM:KL w (.slice (some ⟨b,o,none⟩) l'.len c) (.slice A2 m.len c2') (.slice (some ⟨b',o',none⟩) l'.len c') (.slice A2' m'.len c2'') b (o+q*5) d0 d1 d2 d3 d4 b' (o'+q*5) f0 f1 f2 f3 f4 w':=And.right (And.right (And.right (And.right (And.right (And.right (And.right (And.right (And.right (And.right (And.right (And.right (by assumption))))))))))))
       have HKB:=Hd HKM.2.2
       clear HKM hE0 C g0 g1 g2 g3 g4 g5 g6 g7 g8 g9 h1 h2 h3 h4
       go_wp2_with fail
       go_roundg g
       case measure=>omega
       case rel=>exact ⟨q+1,by omega,by go_num,HKB.out,Zu hnx.out⟩
    · have C:=fun (wx:World) (hx:Below wr.heap.size wr wx)=>Hd ((HS.out x (by omega)).no hvv d0 d1 d2 d3 d4 f0 f1 f2 f3 f4 wx B (Nat.le_trans HB0.out (Nat.le_trans HBB.out.size hx.size)) (VAt.below (hx.mono (Nat.le_trans HB0.out HBB.out.size)) _ _ _ _ _ _ hV) (VAt.below (hx.mono (Nat.le_trans HB0.out HBB.out.size)) _ _ _ _ _ _ hV'))
      have hno:Hid (¬ VT.mk k n s l m=.mk k n s l' m'):=Hd (fun h=>by
       injection h with _ _ _ h _
       subst h
       have:=hE.out.symm.trans hE'.out
       simp only [Option.some.injEq] at this
       exact hvv this)
      clear hV hV' HA hvN hblt hblt' hvv
      go_wp2_with fail
      go_region_held3 (fun w'=>w'.cell? ⟨b,o+q*5,none⟩=some d0∧w'.cell? ⟨b,o+q*5+1,none⟩=some d1∧w'.cell? ⟨b,o+q*5+2,none⟩=some d2∧w'.cell? ⟨b,o+q*5+3,none⟩=some d3∧w'.cell? ⟨b,o+q*5+4,none⟩=some d4∧w'.cell? ⟨b',o'+q*5,none⟩=some f0∧w'.cell? ⟨b',o'+q*5+1,none⟩=some f1∧w'.cell? ⟨b',o'+q*5+2,none⟩=some f2∧w'.cell? ⟨b',o'+q*5+3,none⟩=some f3∧w'.cell? ⟨b',o'+q*5+4,none⟩=some f4∧w'.cell? ⟨w.heap.size,3,none⟩=some (.slice (some ⟨b,o,none⟩) l'.len c)∧w'.cell? ⟨w.heap.size+1,3,none⟩=some (.slice (some ⟨b',o',none⟩) l'.len c')∧KL w (.slice (some ⟨b,o,none⟩) l'.len c) (.slice A2 m.len c2') (.slice (some ⟨b',o',none⟩) l'.len c') (.slice A2' m'.len c2'') b (o+q*5) d0 d1 d2 d3 d4 b' (o'+q*5) f0 f1 f2 f3 f4 w')
       (first
        | exact KL.written (KL.next hE0 HBW.out HBW'.out (Below.drew (Below.refl _ _)))
        | exact KL.written ((KL.next hE0 HBW.out HBW'.out (Below.drew (Below.refl _ _))).next HBW.out HBW'.out (by assumption))
        | exact KL.written (KL.next hE0 HBW.out HBW'.out (by assumption))
        | exact KL.written (KL.next (by assumption) HBW.out HBW'.out (by assumption))
        | go_keep)
       ((first|(go_at_call 21;refine (C _ (by first|exact Below.drew (Below.refl _ _)|exact Below.refl _ _|assumption)).out.mono ?_;rintro e w' ⟨rfl,hb⟩)))
      all_goals
       have HKM:KL w (.slice (some ⟨b,o,none⟩) l'.len c) (.slice A2 m.len c2') (.slice (some ⟨b',o',none⟩) l'.len c') (.slice A2' m'.len c2'') b (o+q*5) d0 d1 d2 d3 d4 b' (o'+q*5) f0 f1 f2 f3 f4 w':=And.right (And.right (And.right (And.right (And.right (And.right (And.right (And.right (And.right (And.right (And.right (And.right (by assumption))))))))))))
       have HKB:=Hd HKM.2.2
       clear HKM hE0 C g0 g1 g2 g3 g4 g5 g6 g7 g8 g9 h1 h2 h3 h4
       go_wp2_with fail
       go_ret
       exact Mo (Oz hno.out) HKB.out.below
theorem Ma:∀ N u,Mn u≤N→Pm u
 | 0,u,h=>by cases u;rw [Mn] at h;omega
 | N+1,u,h=>Zxp N (Ma N) u h
theorem Sp (u:VT):Pm u:=Ma _ u (Nat.le_refl _)
theorem Yco (m:VM):Ym2 m:=Zkz _ (Ma (Zz8 m)) m (Nat.le_refl _)
mutual
def VP (w:World) (P:Nat→Prop):VT→Value→Value→Value→Value→Value→Prop
 | .mk k n s l m,c0,c1,c2,c3,c4=>c0=.int .i64 k∧c1=.int .i64 n∧c2=.string s∧s.size≤9223372036854775807∧(∃ A c,c3=.slice A l.len c∧l.len≤9223372036854775807∧LP w P l A 0)∧∃ A c,c4=.slice A m.len c∧m.len≤9223372036854775807∧MP w P m A 0
def LP (w:World) (P:Nat→Prop):VL→Option Addr→Nat→Prop
 | .nil,_,_=>True
 | .cons v t,A,j=>(∃ b o c0 c1 c2 c3 c4,A=some ⟨b,o,none⟩∧P b∧Ss w b (o+j*5) c0 c1 c2 c3 c4∧VP w P v c0 c1 c2 c3 c4)∧LP w P t A (j+1)
def MP (w:World) (P:Nat→Prop):VM→Option Addr→Nat→Prop
 | .nil,_,_=>True
 | .cons nm v t,A,j=>(∃ b o c0 c1 c2 c3 c4,A=some ⟨b,o,none⟩∧P b∧w.cell? ⟨b,o+j*6,none⟩=some (.string nm)∧nm.size≤9223372036854775807∧Ss w b (o+j*6+1) c0 c1 c2 c3 c4∧VP w P v c0 c1 c2 c3 c4)∧MP w P t A (j+1)
end
theorem Ss.heap {w w':World} {b o:Nat} {c0 c1 c2 c3 c4:Value} (h:Ss w b o c0 c1 c2 c3 c4) (hb:w'.heap[b]? = w.heap[b]?):Ss w' b o c0 c1 c2 c3 c4:=
 ⟨(World.cell?_of_block (a:=⟨b,_,none⟩) hb).trans h.1,(World.cell?_of_block (a:=⟨b,_,none⟩) hb).trans h.2.1,(World.cell?_of_block (a:=⟨b,_,none⟩) hb).trans h.2.2.1,(World.cell?_of_block (a:=⟨b,_,none⟩) hb).trans h.2.2.2.1,(World.cell?_of_block (a:=⟨b,_,none⟩) hb).trans h.2.2.2.2⟩
mutual
theorem VP.keep {w w':World} {P P':Nat→Prop} (hP:∀ b,P b→P' b∧w'.heap[b]? = w.heap[b]?):∀ (v:VT) (c0 c1 c2 c3 c4:Value),VP w P v c0 c1 c2 c3 c4→VP w' P' v c0 c1 c2 c3 c4
 | .mk k n s l m,c0,c1,c2,c3,c4,h=>by
   unfold VP at h ⊢
   obtain ⟨h0,h1,h2,hs,⟨A,c,h3,g3,h4⟩,A',c',h5,g5,h6⟩:=h
   exact ⟨h0,h1,h2,hs,⟨A,c,h3,g3,LP.keep hP l A 0 h4⟩,A',c',h5,g5,MP.keep hP m A' 0 h6⟩
theorem LP.keep {w w':World} {P P':Nat→Prop} (hP:∀ b,P b→P' b∧w'.heap[b]? = w.heap[b]?):∀ (l:VL) (A:Option Addr) (j:Nat),LP w P l A j→LP w' P' l A j
 | .nil,_,_,_=>by unfold LP;trivial
 | .cons v t,A,j,h=>by
   unfold LP at h ⊢
   obtain ⟨⟨b,o,c0,c1,c2,c3,c4,hA,hlt,hf,hv⟩,ht⟩:=h
   exact ⟨⟨b,o,c0,c1,c2,c3,c4,hA,(hP b hlt).1,hf.heap (hP b hlt).2,VP.keep hP v _ _ _ _ _ hv⟩,LP.keep hP t A (j+1) ht⟩
theorem MP.keep {w w':World} {P P':Nat→Prop} (hP:∀ b,P b→P' b∧w'.heap[b]? = w.heap[b]?):∀ (l:VM) (A:Option Addr) (j:Nat),MP w P l A j→MP w' P' l A j
 | .nil,_,_,_=>by unfold MP;trivial
 | .cons nm v t,A,j,h=>by
   unfold MP at h ⊢
   obtain ⟨⟨b,o,c0,c1,c2,c3,c4,hA,hlt,hn,hz,hf,hv⟩,ht⟩:=h
   exact ⟨⟨b,o,c0,c1,c2,c3,c4,hA,(hP b hlt).1,(World.cell?_of_block (a:=⟨b,_,none⟩) (hP b hlt).2).trans hn,hz,hf.heap (hP b hlt).2,VP.keep hP v _ _ _ _ _ hv⟩,MP.keep hP t A (j+1) ht⟩
end
mutual
theorem VP.at {w:World} {B:Nat} {P:Nat→Prop} (hP:∀ b,P b→b < B):∀ (v:VT) (c0 c1 c2 c3 c4:Value),VP w P v c0 c1 c2 c3 c4→VAt w B v c0 c1 c2 c3 c4
 | .mk k n s l m,c0,c1,c2,c3,c4,h=>by
   unfold VP at h
   unfold VAt
   obtain ⟨h0,h1,h2,hs,⟨A,c,h3,g3,h4⟩,A',c',h5,g5,h6⟩:=h
   exact ⟨h0,h1,h2,hs,⟨A,c,h3,g3,LP.at hP l A 0 h4⟩,A',c',h5,g5,MP.at hP m A' 0 h6⟩
theorem LP.at {w:World} {B:Nat} {P:Nat→Prop} (hP:∀ b,P b→b < B):∀ (l:VL) (A:Option Addr) (j:Nat),LP w P l A j→LAt w B l A j
 | .nil,_,_,_=>by unfold LAt;trivial
 | .cons v t,A,j,h=>by
   unfold LP at h
   unfold LAt
   obtain ⟨⟨b,o,c0,c1,c2,c3,c4,hA,hlt,hf,hv⟩,ht⟩:=h
   exact ⟨⟨b,o,c0,c1,c2,c3,c4,hA,hP b hlt,hf,VP.at hP v _ _ _ _ _ hv⟩,LP.at hP t A (j+1) ht⟩
theorem MP.at {w:World} {B:Nat} {P:Nat→Prop} (hP:∀ b,P b→b < B):∀ (l:VM) (A:Option Addr) (j:Nat),MP w P l A j→MAt w B l A j
 | .nil,_,_,_=>by unfold MAt;trivial
 | .cons nm v t,A,j,h=>by
   unfold MP at h
   unfold MAt
   obtain ⟨⟨b,o,c0,c1,c2,c3,c4,hA,hlt,hn,hz,hf,hv⟩,ht⟩:=h
   exact ⟨⟨b,o,c0,c1,c2,c3,c4,hA,hP b hlt,hn,hz,hf,VP.at hP v _ _ _ _ _ hv⟩,MP.at hP t A (j+1) ht⟩
end
def Gl (w:World) (P:Nat→Prop):VL→List Value→Prop
 | .nil,xs=>xs=[]
 | .cons v t,xs=>∃ c0 c1 c2 c3 c4 ys,xs=c0 :: c1 :: c2 :: c3 :: c4 :: ys∧VP w P v c0 c1 c2 c3 c4∧Gl w P t ys
def Gj (w:World) (P:Nat→Prop):VM→List Value→Prop
 | .nil,xs=>xs=[]
 | .cons nm v t,xs=>∃ c0 c1 c2 c3 c4 ys,xs=.string nm :: c0 :: c1 :: c2 :: c3 :: c4 :: ys∧nm.size≤9223372036854775807∧VP w P v c0 c1 c2 c3 c4∧Gj w P t ys
def VL.snoc:VL→VT→VL
 | .nil,v=>.cons v .nil
 | .cons u t,v=>.cons u (t.snoc v)
def VM.snoc:VM→ByteArray→VT→VM
 | .nil,nm,v=>.cons nm v .nil
 | .cons x u t,nm,v=>.cons x u (t.snoc nm v)
def VL.take:VL→Nat→VL
 | _,0=>.nil
 | .nil,_+1=>.nil
 | .cons v t,j+1=>.cons v (t.take j)
def VM.take:VM→Nat→VM
 | _,0=>.nil
 | .nil,_+1=>.nil
 | .cons nm v t,j+1=>.cons nm v (t.take j)
theorem VL.take_zero (l:VL):l.take 0=.nil:=by cases l<;>rfl
theorem VM.take_zero (l:VM):l.take 0=.nil:=by cases l<;>rfl
theorem Gl.keep {w w':World} {P P':Nat→Prop} (hP:∀ b,P b→P' b∧w'.heap[b]? = w.heap[b]?):∀ {l:VL} {xs:List Value},Gl w P l xs→Gl w' P' l xs
 | .nil,_,h=>h
 | .cons v t,xs,h=>by
   obtain ⟨c0,c1,c2,c3,c4,ys,e,hv,ht⟩:=h
   exact ⟨c0,c1,c2,c3,c4,ys,e,VP.keep hP _ _ _ _ _ _ hv,Gl.keep hP ht⟩
theorem Gj.keep {w w':World} {P P':Nat→Prop} (hP:∀ b,P b→P' b∧w'.heap[b]? = w.heap[b]?):∀ {l:VM} {xs:List Value},Gj w P l xs→Gj w' P' l xs
 | .nil,_,h=>h
 | .cons nm v t,xs,h=>by
   obtain ⟨c0,c1,c2,c3,c4,ys,e,hn,hv,ht⟩:=h
   exact ⟨c0,c1,c2,c3,c4,ys,e,hn,VP.keep hP _ _ _ _ _ _ hv,Gj.keep hP ht⟩
theorem Gl.snoc {w:World} {P:Nat→Prop} {v:VT} {d0 d1 d2 d3 d4:Value} (hd:VP w P v d0 d1 d2 d3 d4):∀ {l:VL} {xs:List Value},Gl w P l xs→Gl w P (l.snoc v) (xs++[d0,d1,d2,d3,d4])
 | .nil,xs,h=>by
   have:xs=[]:=h
   subst this
   exact ⟨d0,d1,d2,d3,d4,[],rfl,hd,rfl⟩
 | .cons u t,xs,h=>by
   obtain ⟨c0,c1,c2,c3,c4,ys,rfl,hv,ht⟩:=h
   exact ⟨c0,c1,c2,c3,c4,ys++[d0,d1,d2,d3,d4],by simp,hv,Gl.snoc hd ht⟩
theorem Gj.snoc {w:World} {P:Nat→Prop} {nm:ByteArray} {v:VT} {d0 d1 d2 d3 d4:Value} (hn:nm.size≤9223372036854775807) (hd:VP w P v d0 d1 d2 d3 d4):∀ {l:VM} {xs:List Value},Gj w P l xs→Gj w P (l.snoc nm v) (xs++[.string nm,d0,d1,d2,d3,d4])
 | .nil,xs,h=>by
   have:xs=[]:=h
   subst this
   exact ⟨d0,d1,d2,d3,d4,[],rfl,hn,hd,rfl⟩
 | .cons x u t,xs,h=>by
   obtain ⟨c0,c1,c2,c3,c4,ys,rfl,hx,hv,ht⟩:=h
   exact ⟨c0,c1,c2,c3,c4,ys++[.string nm,d0,d1,d2,d3,d4],by simp,hx,hv,Gj.snoc hn hd ht⟩
theorem LP.of_cells {w:World} {P:Nat→Prop} {g:Nat} (hg:P g):∀ {l:VL} {xs:List Value} (i:Nat),Gl w P l xs→(∀ j u,xs[j]? = some u→w.cell? ⟨g,i*5+j,none⟩=some u)→LP w P l (some ⟨g,0,none⟩) i
 | .nil,_,_,_,_=>by unfold LP;trivial
 | .cons v t,xs,i,h,hc=>by
   obtain ⟨c0,c1,c2,c3,c4,ys,rfl,hv,ht⟩:=h
   unfold LP
   refine ⟨⟨g,0,c0,c1,c2,c3,c4,rfl,hg,?_,hv⟩,LP.of_cells hg (i+1) ht (fun j u hj=>?_)⟩
   · rw [Nat.zero_add]
     exact ⟨hc 0 c0 rfl,hc 1 c1 rfl,hc 2 c2 rfl,hc 3 c3 rfl,hc 4 c4 rfl⟩
   · have:=hc (j+5) u (by simpa using hj)
     rwa [show i*5+(j+5)=(i+1)*5+j by omega] at this
theorem MP.of_cells {w:World} {P:Nat→Prop} {g:Nat} (hg:P g):∀ {l:VM} {xs:List Value} (i:Nat),Gj w P l xs→(∀ j u,xs[j]? = some u→w.cell? ⟨g,i*6+j,none⟩=some u)→MP w P l (some ⟨g,0,none⟩) i
 | .nil,_,_,_,_=>by unfold MP;trivial
 | .cons nm v t,xs,i,h,hc=>by
   obtain ⟨c0,c1,c2,c3,c4,ys,rfl,hn,hv,ht⟩:=h
   unfold MP
   refine ⟨⟨g,0,c0,c1,c2,c3,c4,rfl,hg,?_,hn,?_,hv⟩,MP.of_cells hg (i+1) ht (fun j u hj=>?_)⟩
   · rw [Nat.zero_add];exact hc 0 _ rfl
   · rw [Nat.zero_add]
     exact ⟨hc 1 c0 rfl,hc 2 c1 rfl,hc 3 c2 rfl,hc 4 c3 rfl,hc 5 c4 rfl⟩
   · have:=hc (j+6) u (by simpa using hj)
     rwa [show i*6+(j+6)=(i+1)*6+j by omega] at this
theorem Yf0 {w:World} {base:Nat} {V:Value} {P:Nat→Prop} {l:VL} {xs:List Value} (h:w.ownsRow base 35 5 V l.len xs) (hv:Gl w P l xs) :
   ∃ A c,V=.slice A l.len c∧LP w (fun b=>P b∨V.ownBlock=some b) l A 0:=by
 rcases h.2 with ⟨hV,hn⟩|⟨g,c,cur,hV,_⟩
 · refine ⟨none,0,by rw [hV,hn],?_⟩
   cases l with
   | nil=>unfold LP;trivial
   | cons v t=>simp [VL.len] at hn
 · have hg:V.ownBlock=some g:=by rw [hV];rfl
   refine ⟨some ⟨g,0,none⟩,c,hV,LP.of_cells (.inr hg) 0 (hv.keep (fun b hb=>⟨.inl hb,rfl⟩)) (fun j u hj=>?_)⟩
   have:=h.cells hg j u hj
   rwa [Rk,Nat.zero_add,show j=0*5+j by omega] at this
theorem Zqh {w:World} {base:Nat} {V:Value} {P:Nat→Prop} {l:VM} {xs:List Value} (h:w.ownsRow base 98 6 V l.len xs) (hv:Gj w P l xs) :
   ∃ A c,V=.slice A l.len c∧MP w (fun b=>P b∨V.ownBlock=some b) l A 0:=by
 rcases h.2 with ⟨hV,hn⟩|⟨g,c,cur,hV,_⟩
 · refine ⟨none,0,by rw [hV,hn],?_⟩
   cases l with
   | nil=>unfold MP;trivial
   | cons nm v t=>simp [VM.len] at hn
 · have hg:V.ownBlock=some g:=by rw [hV];rfl
   refine ⟨some ⟨g,0,none⟩,c,hV,MP.of_cells (.inr hg) 0 (hv.keep (fun b hb=>⟨.inl hb,rfl⟩)) (fun j u hj=>?_)⟩
   have:=h.cells hg j u hj
   rwa [Rk,Nat.zero_add,show j=0*6+j by omega] at this
theorem Yek:(Tryz.prog.info? 35).map (fun i=>(i.zero,i.size,i.bytes))=some (some (.agg #[.int .i64 0,.int .i64 0,.string ⟨#[]⟩,.slice none 0 0,.slice none 0 0]),5,80):=by kernel_rfl
theorem Ygn:(Tryz.prog.info? 98).map (fun i=>(i.zero,i.size,i.bytes))=some (some (.agg #[.string ⟨#[]⟩,.int .i64 0,.int .i64 0,.string ⟨#[]⟩,.slice none 0 0,.slice none 0 0]),6,96):=by kernel_rfl
def Zs (w w':World) (b:Nat):Prop:=w.heap.size≤b∧b < w'.heap.size
def RT (base:Nat) (W:World) (V:Value) (q:Nat) (l:VL):Prop:=∃ xs P,W.ownsRow base 35 5 V q xs∧Gl W P l xs∧∀ b,P b→base≤b∧b < W.heap.size∧V.ownBlock ≠ some b
def RM (base:Nat) (W:World) (V:Value) (q:Nat) (l:VM):Prop:=∃ xs P,W.ownsRow base 98 6 V q xs∧Gj W P l xs∧∀ b,P b→base≤b∧b < W.heap.size∧V.ownBlock ≠ some b
theorem RT.start (base:Nat) (W:World):RT base W (.slice none 0 0) 0 .nil:=⟨[],fun _=>False,World.ownsRow_nil _ _ _ _,rfl,fun _ h=>h.elim⟩
theorem RM.start (base:Nat) (W:World):RM base W (.slice none 0 0) 0 .nil:=⟨[],fun _=>False,World.ownsRow_nil _ _ _ _,rfl,fun _ h=>h.elim⟩
theorem Xn {B:Nat} {e:TypeId} {k:Nat} {v:Value} {n:Nat} {xs:List Value} {w w':World} (h:w.ownsRow B e k v n xs) (hb:Below w.heap.size w w'):w'.ownsRow B e k v n xs:=
 h.kept (row:=none) ⟨hb.os,hb.tape,hb.output,hb.size,fun j hj _=>hb.block j hj⟩ (Classical.em _)
theorem Vv {wr w2 w4:World} {V:Value} {g:Nat} {o:Obj} {P:Nat→Prop} {base:Nat} (hbase:base≤wr.heap.size) (hV:∀ k,V.ownBlock=some k→k < wr.heap.size) (hP:∀ b,P b→base≤b∧b < wr.heap.size∧V.ownBlock ≠ some b)
   (hb:Below wr.heap.size wr w2) (hg:(w2.alloc o).grownBy w4 V.ownBlock) (hat:V.ownBlock=some g∨g=(w2.alloc o).heap.size) :
   (∀ b,P b→(P b∨Zs wr w2 b)∧w4.heap[b]? = wr.heap[b]?)∧(∀ b,Zs wr w2 b→(P b∨Zs wr w2 b)∧w4.heap[b]? = w2.heap[b]?)∧(∀ b,P b∨Zs wr w2 b→base≤b∧b < w4.heap.size∧some g ≠ some b):=by
 have hs2:=hb.size
 have hs4:=hg.size
 have ha:(w2.alloc o).heap.size=w2.heap.size+1:=by simp
 have hn:∀ b,Zs wr w2 b→V.ownBlock ≠ some b:=fun b h e=>by have:=hV b e;have:=h.1;omega
 refine ⟨fun b h=>⟨.inl h,?_⟩,fun b h=>⟨.inr h,?_⟩,fun b h=>?_⟩
 · obtain ⟨_,h1,h2⟩:=hP b h
   rw [hg.block b (by omega) (fun e=>h2 e.symm),Below.heap_alloc _ _ _ (by omega),hb.block b h1]
 · have h1:=h.2
   rw [hg.block b (by omega) (fun e=>hn b h e.symm),Below.heap_alloc _ _ _ h1]
 · have hlt:base≤b∧b < w2.heap.size∧V.ownBlock ≠ some b:=by
     rcases h with h|h
     · obtain ⟨h0,h1,h2⟩:=hP b h
       exact ⟨h0,by omega,h2⟩
     · exact ⟨Nat.le_trans hbase h.1,h.2,hn b h⟩
   refine ⟨hlt.1,by omega,fun e=>?_⟩
   rcases hat with hat|hat
   · exact hlt.2.2 (hat.trans e)
   · have:g=b:=by injection e
     omega
theorem RT.next {base q cap g:Nat} {wr w2 w4:World} {V:Value} {l:VL} {v:VT} {o:Obj} {xs:List Value} {P:Nat→Prop} {d0 d1 d2 d3 d4:Value} (hbase:base≤wr.heap.size) (hown:wr.ownsRow base 35 5 V q xs) (hv:Gl wr P l xs) (hP:∀ b,P b→base≤b∧b < wr.heap.size∧V.ownBlock ≠ some b)
  (hb:Below wr.heap.size wr w2) (hd:VP w2 (Zs wr w2) v d0 d1 d2 d3 d4) (hown4:w4.ownsRow base 35 5 (.slice (some ⟨g,0,none⟩) (q+1) cap) (q+1) (xs++[d0,d1,d2,d3,d4])) (hg:(w2.alloc o).grownBy w4 V.ownBlock) (hat:V.ownBlock=some g∨g=(w2.alloc o).heap.size) :
  RT base w4 (.slice (some ⟨g,0,none⟩) (q+1) cap) (q+1) (l.snoc v):=by
 obtain ⟨h1,h2,h3⟩:=Vv hbase (fun k hk=>(hown.lt k hk).2) hP hb hg hat
 exact ⟨_,fun b=>P b∨Zs wr w2 b,hown4,Gl.snoc (VP.keep h2 _ _ _ _ _ _ hd) (hv.keep h1),h3⟩
theorem RM.next {base q cap g:Nat} {wr w2 w4:World} {V:Value} {l:VM} {nm:ByteArray} {v:VT} {o:Obj} {xs:List Value} {P:Nat→Prop} {d0 d1 d2 d3 d4:Value} (hbase:base≤wr.heap.size) (hown:wr.ownsRow base 98 6 V q xs) (hv:Gj wr P l xs) (hP:∀ b,P b→base≤b∧b < wr.heap.size∧V.ownBlock ≠ some b) (hnm:nm.size≤9223372036854775807)
  (hb:Below wr.heap.size wr w2) (hd:VP w2 (Zs wr w2) v d0 d1 d2 d3 d4) (hown4:w4.ownsRow base 98 6 (.slice (some ⟨g,0,none⟩) (q+1) cap) (q+1) (xs++[.string nm,d0,d1,d2,d3,d4])) (hg:(w2.alloc o).grownBy w4 V.ownBlock) (hat:V.ownBlock=some g∨g=(w2.alloc o).heap.size) :
  RM base w4 (.slice (some ⟨g,0,none⟩) (q+1) cap) (q+1) (l.snoc nm v):=by
 obtain ⟨h1,h2,h3⟩:=Vv hbase (fun k hk=>(hown.lt k hk).2) hP hb hg hat
 exact ⟨_,fun b=>P b∨Zs wr w2 b,hown4,Gj.snoc hnm (VP.keep h2 _ _ _ _ _ _ hd) (hv.keep h1),h3⟩
theorem Yw {w:World} {base sz:Nat} {e:TypeId} {v:Value} {n:Nat} {xs:List Value} (h:w.ownsRow base e sz v n xs):∃ A cap,v=.slice A n cap:=by
 rcases h.2 with ⟨hv,hn⟩|⟨g,cap,cur,hv,_⟩
 · exact ⟨none,0,by rw [hv,hn]⟩
 · exact ⟨_,_,hv⟩
theorem Yee (w:World) (a0 a1 a2 a3 a4:Value) (t:TypeId) {n:Nat} (hn:n=w.heap.size):∀ (j:Nat) u,[a0,a1,a2,a3,a4][j]? = some u→(w.alloc (.cells #[a0,a1,a2,a3,a4] t)).cell? ((⟨n,0,none⟩:Addr).add j)=some u:=by
 subst hn
 intro j u hu
 rw [Rk,Nat.zero_add]
 match j,hu with
 | 0,hu=>cases hu;rw [World.cell?_alloc_at _ _ _ _ rfl];rfl
 | 1,hu=>cases hu;rw [World.cell?_alloc_at _ _ _ _ rfl];rfl
 | 2,hu=>cases hu;rw [World.cell?_alloc_at _ _ _ _ rfl];rfl
 | 3,hu=>cases hu;rw [World.cell?_alloc_at _ _ _ _ rfl];rfl
 | 4,hu=>cases hu;rw [World.cell?_alloc_at _ _ _ _ rfl];rfl
theorem Yim (w:World) (a a0 a1 a2 a3 a4:Value) (t:TypeId) {n:Nat} (hn:n=w.heap.size):∀ (j:Nat) u,[a,a0,a1,a2,a3,a4][j]? = some u→(w.alloc (.cells #[a,a0,a1,a2,a3,a4] t)).cell? ((⟨n,0,none⟩:Addr).add j)=some u:=by
 subst hn
 intro j u hu
 rw [Rk,Nat.zero_add]
 match j,hu with
 | 0,hu=>cases hu;rw [World.cell?_alloc_at _ _ _ _ rfl];rfl
 | 1,hu=>cases hu;rw [World.cell?_alloc_at _ _ _ _ rfl];rfl
 | 2,hu=>cases hu;rw [World.cell?_alloc_at _ _ _ _ rfl];rfl
 | 3,hu=>cases hu;rw [World.cell?_alloc_at _ _ _ _ rfl];rfl
 | 4,hu=>cases hu;rw [World.cell?_alloc_at _ _ _ _ rfl];rfl
 | 5,hu=>cases hu;rw [World.cell?_alloc_at _ _ _ _ rfl];rfl
def Qw (c:Int):Bool:=decide ((97≤c∧c≤122)∨(65≤c∧c≤90)∨c=95)
def Qt (c:Int):Bool:=decide (48≤c∧c≤57)
def X3 (c:Int):Bool:=decide (55296≤c∧c≤57343)
def Ct (a b:Int):Bool:=decide (55296≤a∧a < 56320∧56320≤b∧b≤57343)
def Og (l:List UInt8):Bool:=l.all fun b=>Qw (b.toNat:Int) || Qt (b.toNat:Int)
def Uk:List UInt8→Bool
 | []=>false
 | b :: t=>Qw (b.toNat:Int) && Og t
theorem Sw (l m:List UInt8):Og (l++m)=(Og l && Og m):=by simp [Og]
theorem Ed (l m:List UInt8) (h:l ≠ []):Uk (l++m)=(Uk l && Og m):=by
 cases l with
 | nil=>exact absurd rfl h
 | cons b t=>simp [Uk,Sw,Bool.and_assoc]
theorem Ac (s:ByteArray) (k:Nat) (h:k < s.size):s.data.toList.take (k+1)=s.data.toList.take k++[s[k]]:=by
 rw [List.take_succ_eq_append_getElem (by simpa using h)];rfl
def Pa (s:ByteArray) (k:Nat):Prop:=k=0∨Uk (s.data.toList.take k)=true
theorem Ykq (s:ByteArray) (k:Nat) (h0:k ≠ 0) (h:k < s.size):s.data.toList.take k ≠ []:=by
 have:s.data.toList.length=s.size:=Array.length_toList
 intro e
 have:=congrArg List.length e
 simp only [List.length_take,List.length_nil] at this
 omega
theorem Pw {s:ByteArray} {k:Nat} (h:k < s.size) (ht:Pa s k) (hl:Qw (s[k].toNat:Int)=true):Pa s (k+1):=by
 refine .inr ?_
 rw [Ac s k h]
 rcases ht with h0|ht
 · subst h0;simp [Uk,Og,hl]
 · rw [Ed _ _ (by intro e;rw [e] at ht;cases ht),ht];simp [Og,hl]
theorem Tf {s:ByteArray} {k:Nat} (h:k < s.size) (h0:k ≠ 0) (ht:Pa s k) (hl:Qt (s[k].toNat:Int)=true):Pa s (k+1):=by
 refine .inr ?_
 rw [Ac s k h]
 rcases ht with h0'|ht
 · exact absurd h0' h0
 · rw [Ed _ _ (by intro e;rw [e] at ht;cases ht),ht];simp [Og,hl]
theorem Ax (s:ByteArray) (k:Nat) (h:k < s.size):s.data.toList=s.data.toList.take k++s[k] :: s.data.toList.drop (k+1):=by
 have e:=(List.take_append_drop (k+1) s.data.toList).symm
 rw [Ac s k h,List.append_assoc] at e
 exact e
theorem Zvi {s:ByteArray} (h:0 < s.size) (hl:Qw (s[0].toNat:Int)=false):Uk s.data.toList=false:=by
 rw [Ax s 0 h];simp [Uk,hl]
theorem Yb7 {s:ByteArray} {k:Nat} (h:k < s.size) (h0:k ≠ 0) (hl:Qw (s[k].toNat:Int)=false) (hd:Qt (s[k].toNat:Int)=false):Uk s.data.toList=false:=by
 rw [Ax s k h,Ed _ _ (Ykq s k h0 h)]
 simp [Og,hl,hd]
theorem Yb5 {s:ByteArray} (ht:Pa s s.size):Uk s.data.toList = !s.toList.isEmpty:=by
 have hl:s.data.toList.length=s.size:=Array.length_toList
 have e:s.toList=s.data.toList:=Lib.toList_data s
 rw [e]
 rcases ht with h0|ht
 · have:s.data.toList=[]:=List.eq_nil_of_length_eq_zero (by omega)
   rw [this];rfl
 · rw [← hl,List.take_length] at ht
   rw [ht]
   cases h:s.data.toList with
   | nil=>rw [h] at ht;cases ht
   | cons _ _=>rfl
theorem Aside.intro {p:Prop} (h:p):Aside p:=h
theorem Yy {a b:Bool} (h:a=b):Ending.returned (.bool a)=.returned (.bool b):=by rw [h]
theorem Ie {a b:Bool} {w:World} (h:a=true ↔ b=true):Ending.returned (.bool a)=.returned (.bool b)∧w=w:=by rw [Bool.eq_iff_iff.2 h];exact ⟨rfl,rfl⟩
theorem Et (c:Int) (w:World):Calls Tryz.prog 196 #[.int .u8 c] w fun e w'=>e=.returned (.bool (Qw c))∧w=w':=by
 go_enter Tryz.func196,Tryz.ntmps196
 go_wp2
 all_goals go_ret
 all_goals (refine Ie ?_;simp [Qw];try omega)
theorem We (c:Int) (w:World):Calls Tryz.prog 197 #[.int .u8 c] w fun e w'=>e=.returned (.bool (Qt c))∧w=w':=by
 go_enter Tryz.func197,Tryz.ntmps197
 go_wp2
 all_goals go_ret
 all_goals (refine Ie ?_;simp [Qt];try omega)
theorem Wa (c:Int) (w:World):Calls Tryz.prog 154 #[.int .u8 c] w fun e w'=>e=.returned (.bool (Qw c))∧w=w':=by
 go_enter Tryz.func154,Tryz.ntmps154
 go_wp2
 all_goals go_ret
 all_goals (refine Ie ?_;simp [Qw];try omega)
theorem Uu (c:Int) (w:World):Calls Tryz.prog 155 #[.int .u8 c] w fun e w'=>e=.returned (.bool (Qt c))∧w=w':=by
 go_enter Tryz.func155,Tryz.ntmps155
 go_wp2
 all_goals go_ret
 all_goals (refine Ie ?_;simp [Qt];try omega)
theorem Gc (c:Int) (w:World):Calls Tryz.prog 283 #[.int .i64 c] w fun e w'=>e=.returned (.bool (X3 c))∧w=w':=by
 go_enter Tryz.func283,Tryz.ntmps283
 go_wp2
 all_goals go_ret
 all_goals (refine Ie ?_;simp [X3];try omega)
theorem Ye9 (a b:Int) (w:World):Calls Tryz.prog 306 #[.int .i64 a,.int .i64 b] w fun e w'=>e=.returned (.bool (Ct a b))∧w=w':=by
 go_enter Tryz.func306,Tryz.ntmps306
 go_wp2
 all_goals go_ret
 all_goals (refine Ie ?_;simp [Ct];try omega)
theorem Zks (s:ByteArray) (w:World) (hs:s.size≤1100000):Calls Tryz.prog 130 #[.string s] w fun e w'=>e=.returned (.bool (Uk s.data.toList))∧w=w':=by
 go_enter Tryz.func130,Tryz.ntmps130
 go_wp2
 go_loop [6] (fun i=>∃ k:Nat,k≤s.size∧i=.int .i64 k∧Pa s k) (fun i=>s.size - (intOf i).toNat)
 case atStart=>exact ⟨0,Nat.zero_le _,rfl,.inl rfl⟩
 case round =>
  obtain ⟨k,hk,rfl,H⟩:=hrel
  by_cases hlt:k < s.size
  · cases hl:Qw (s[k].toNat:Int)
    · by_cases h0:k=0
      · have hst:=Aside.intro (Zvi (s:=s) (by omega) (by subst h0;exact hl))
        have e0:((k:Int) == 0)=true:=by simp [h0]
        clear h0 H
        go_wp2_with (first
          | (go_at_call 196;refine (Et _ _).mono ?_;rintro e w' ⟨rfl,rfl⟩)
          | (go_at_call 197;refine (We _ _).mono ?_;rintro e w' ⟨rfl,rfl⟩))
        go_ret
        exact ⟨Yy hst.out.symm,rfl⟩
      · have e0:((k:Int) == 0)=false:=by simp [h0]
        cases hd:Qt (s[k].toNat:Int)
        · have hst:=Aside.intro (Yb7 (s:=s) hlt h0 hl hd)
          clear h0 H
          go_wp2_with (first
           | (go_at_call 196;refine (Et _ _).mono ?_;rintro e w' ⟨rfl,rfl⟩)
           | (go_at_call 197;refine (We _ _).mono ?_;rintro e w' ⟨rfl,rfl⟩))
          go_ret
          exact ⟨Yy hst.out.symm,rfl⟩
        · have hst:=Aside.intro (Tf (s:=s) hlt h0 H hd)
          clear h0 H
          go_wp2_with (first
           | (go_at_call 196;refine (Et _ _).mono ?_;rintro e w' ⟨rfl,rfl⟩)
           | (go_at_call 197;refine (We _ _).mono ?_;rintro e w' ⟨rfl,rfl⟩))
          go_round
          case rel=>exact ⟨k+1,by omega,by go_num,hst.out⟩
          case measure=>simp [intOf];omega
    · have hst:=Aside.intro (Pw (s:=s) hlt H hl)
      clear H
      go_wp2_with (first
        | (go_at_call 196;refine (Et _ _).mono ?_;rintro e w' ⟨rfl,rfl⟩)
        | (go_at_call 197;refine (We _ _).mono ?_;rintro e w' ⟨rfl,rfl⟩))
      go_round
      case rel=>exact ⟨k+1,by omega,by go_num,hst.out⟩
      case measure=>simp [intOf];omega
  · obtain rfl:k=s.size:=by omega
    have hst:=Aside.intro (Yb5 H)
    clear H hk
    go_wp2
    go_ret
    exact ⟨Yy hst.out.symm,rfl⟩
open Go.Shelf Go.RowKit
def Ybj:Go.Shelf.Ren:=⟨fun|168=>140|240=>139|242=>204|276=>203|278=>251|n=>n,fun|0=>0|3=>3|4=>4|5=>5|9=>9|20=>20|21=>21|37=>100|46=>167|51=>243|70=>99|72=>102|75=>105|80=>110|164=>220|n=>n,fun|n=>n⟩
theorem Yef:Go.Proofs.Lays.n168 Tryz.prog Ybj:={
 mixed:=by kernel_rfl
 f168:=Tryz.func140.trans (congrArg some (by kernel_rfl))
 f240:=Tryz.func139.trans (congrArg some (by kernel_rfl))
 f242:=Tryz.func204.trans (congrArg some (by kernel_rfl))
 f276:=Tryz.func203.trans (congrArg some (by kernel_rfl))
 f278:=Tryz.func251.trans (congrArg some (by kernel_rfl))
 t0:=Tryz.underlying0
 a0:=Tryz.isAgg0
 z0:=Tryz.sizeOf0
 v0:=Tryz.zeroValue0
 t3:=Tryz.underlying3
 a3:=Tryz.isAgg3
 z3:=Tryz.sizeOf3
 v3:=Tryz.zeroValue3
 t4:=Tryz.underlying4
 a4:=Tryz.isAgg4
 z4:=Tryz.sizeOf4
 v4:=Tryz.zeroValue4
 t5:=Tryz.underlying5
 a5:=Tryz.isAgg5
 z5:=Tryz.sizeOf5
 v5:=Tryz.zeroValue5
 t9:=Tryz.underlying9
 a9:=Tryz.isAgg9
 z9:=Tryz.sizeOf9
 v9:=Tryz.zeroValue9
 t20:=Tryz.underlying20
 a20:=Tryz.isAgg20
 z20:=Tryz.sizeOf20
 v20:=Tryz.zeroValue20
 t21:=Tryz.underlying21
 a21:=Tryz.isAgg21
 z21:=Tryz.sizeOf21
 v21:=Tryz.zeroValue21
 t37:=Tryz.underlying100
 a37:=Tryz.isAgg100
 z37:=Tryz.sizeOf100
 v37:=Tryz.zeroValue100
 t46:=Tryz.underlying167
 a46:=Tryz.isAgg167
 z46:=Tryz.sizeOf167
 v46:=Tryz.zeroValue167
 t51:=Tryz.underlying243
 a51:=Tryz.isAgg243
 z51:=Tryz.sizeOf243
 v51:=Tryz.zeroValue243
 t70:=Tryz.underlying99
 a70:=Tryz.isAgg99
 z70:=Tryz.sizeOf99
 v70:=Tryz.zeroValue99
 t72:=Tryz.underlying102
 a72:=Tryz.isAgg102
 z72:=Tryz.sizeOf102
 v72:=Tryz.zeroValue102
 t75:=Tryz.underlying105
 a75:=Tryz.isAgg105
 z75:=Tryz.sizeOf105
 v75:=Tryz.zeroValue105
 t164:=Tryz.underlying220
 a164:=Tryz.isAgg220
 z164:=Tryz.sizeOf220
 v164:=Tryz.zeroValue220 }
theorem Yca:Builder.Extra Tryz.prog Ybj:={
 sizeBuilder:=by kernel_rfl
 liesBuilder:=by kernel_rfl
 t5:=Tryz.underlying5
 a5:=Tryz.isAgg5
 z5:=Tryz.sizeOf5
 v5:=Tryz.zeroValue5
 infoByte:=by kernel_rfl
 cellsByte:=by kernel_rfl
 sizeByte:=by kernel_rfl
 neB5:=by decide }
theorem S9 (B b:Nat) (bs:List Value) (r:Int) (hr0 : -2147483648≤r) (hr1:r≤2147483647) (w:World) (h:Lib.IsBuilderF 102 5 B b bs w) (hlen:bs.length+4≤140737488355328) (hBw:B≤w.heap.size) :
  Calls Tryz.prog 140 #[.pointer (some ⟨b,0,none⟩),.int .i32 r] w fun e w'=>e=.returned (.tuple #[.int .i64 (Lib.runeCells r).length,.nilIface])∧(Lib.BuilderAtF 102 5 B b (.pointer (some ⟨b,0,none⟩)) (bs++Lib.runeCells r) w'∧Below B w w'∧Lib.OthersKept 5 (some b) w w'):=
 Any.Builder_WriteRune_k Yef Yca B b bs r hr0 hr1 w h hlen hBw
def Ycf:Go.Shelf.Ren:=⟨fun|169=>62|n=>n,fun|0=>0|3=>3|9=>9|37=>100|70=>99|72=>102|127=>176|5=>5|n=>n,fun|n=>n⟩
theorem Yfg:Go.Proofs.Lays.n169 Tryz.prog Ycf:={
 mixed:=by kernel_rfl
 f169:=Tryz.func62.trans (congrArg some (by kernel_rfl))
 t0:=Tryz.underlying0
 a0:=Tryz.isAgg0
 z0:=Tryz.sizeOf0
 v0:=Tryz.zeroValue0
 t3:=Tryz.underlying3
 a3:=Tryz.isAgg3
 z3:=Tryz.sizeOf3
 v3:=Tryz.zeroValue3
 t9:=Tryz.underlying9
 a9:=Tryz.isAgg9
 z9:=Tryz.sizeOf9
 v9:=Tryz.zeroValue9
 t37:=Tryz.underlying100
 a37:=Tryz.isAgg100
 z37:=Tryz.sizeOf100
 v37:=Tryz.zeroValue100
 t70:=Tryz.underlying99
 a70:=Tryz.isAgg99
 z70:=Tryz.sizeOf99
 v70:=Tryz.zeroValue99
 t72:=Tryz.underlying102
 a72:=Tryz.isAgg102
 z72:=Tryz.sizeOf102
 v72:=Tryz.zeroValue102
 t127:=Tryz.underlying176
 a127:=Tryz.isAgg176
 z127:=Tryz.sizeOf176
 v127:=Tryz.zeroValue176 }
theorem Yd4:Builder.Extra Tryz.prog Ycf:={
 sizeBuilder:=by kernel_rfl
 liesBuilder:=by kernel_rfl
 t5:=Tryz.underlying5
 a5:=Tryz.isAgg5
 z5:=Tryz.sizeOf5
 v5:=Tryz.zeroValue5
 infoByte:=by kernel_rfl
 cellsByte:=by kernel_rfl
 sizeByte:=by kernel_rfl
 neB5:=by decide }
theorem Gy (B b:Nat) (l:List UInt8) (w:World) (h:Lib.IsBuilderF 102 5 B b (Lib.byteCells l) w) (hBw:B≤w.heap.size) :
  Calls Tryz.prog 62 #[.pointer (some ⟨b,0,none⟩)] w fun e w'=>e=.returned (.string ⟨l.toArray⟩)∧(Lib.IsBuilderF 102 5 B b (Lib.byteCells l) w'∧Below B w w'∧Lib.OthersKept 5 (some b) w w'):=
 Any.Builder_String_any_k Yfg Yd4 B b l w h hBw
abbrev Tok:=Int × ByteArray
def Z0 (r:Nat) (w w':World):Prop:=w.grownBy w' (some r)
theorem Z0.refl (r:Nat) (w:World):Z0 r w w:=⟨rfl,rfl,rfl,Nat.le_refl _,fun _ _ _=>rfl⟩
theorem Z0.of_below {r:Nat} {w w':World} (h:Below w.heap.size w w'):Z0 r w w':=⟨h.os,h.tape,h.output,h.size,fun b hb _=>h.block b hb⟩
theorem Z0.trans {r:Nat} {w w1 w2:World} (h:Z0 r w w1) (h':Z0 r w1 w2):Z0 r w w2:=
 ⟨h'.os.trans h.os,h'.tape.trans h.tape,h'.output.trans h.output,Nat.le_trans h.size h'.size,fun b hb hn=>(h'.block b (Nat.lt_of_lt_of_le hb h.size) hn).trans (h.block b hb hn)⟩
theorem Z0.set {r i:Nat} {w:World} {v:Value} : Z0 r w (w.setCell ⟨r,i,none⟩ v):=by
 exact ⟨rfl,rfl,rfl,by simp [World.setCell],fun b hb hn=>Below.heap_setCell _ _ _ _ (fun e=>hn (by rw [e]))⟩
def Ef (w:World) (r:Nat) (A:Option Addr) (ts:List Tok):Prop:=∀ (j:Nat) t,ts[j]? = some t→∃ b o,A=some ⟨b,o,none⟩∧b < r∧w.cell? ⟨b,o+j*2,none⟩=some (.int .i64 t.1)∧w.cell? ⟨b,o+j*2+1,none⟩=some (.string t.2)
theorem Ef.moved {w w':World} {r:Nat} {A:Option Addr} {ts:List Tok} (h:Ef w r A ts) (hm:Z0 r w w') (hr:r < w.heap.size):Ef w' r A ts:=by
 intro j t ht
 obtain ⟨b,o,e,hb,h0,h1⟩:=h j t ht
 have hs:=hm.block b (by omega) (fun e=>by injection e;omega)
 exact ⟨b,o,e,hb,(World.cell?_of_block (a:=⟨b,o+j*2,none⟩) hs).trans h0,(World.cell?_of_block (a:=⟨b,o+j*2+1,none⟩) hs).trans h1⟩
def Rd (w:World) (r:Nat) (ts:List Tok) (d:Nat):Prop:=∃ A c,w.heap[r]? = some (.cells #[.slice A ts.length c,.int .i64 d] 147 (0,0))∧ts.length≤c∧ts.length≤200000∧Ef w r A ts
theorem Rd.lt {w:World} {r:Nat} {ts:List Tok} {d:Nat} (h:Rd w r ts d):r < w.heap.size:=by
 obtain ⟨A,c,h,_⟩:=h
 exact (Array.getElem?_eq_some_iff.1 h).1
theorem Rd.below {w w':World} {r:Nat} {ts:List Tok} {d:Nat} (h:Rd w r ts d) (hb:Below w.heap.size w w'):Rd w' r ts d:=by
 have hl:=h.lt
 obtain ⟨A,c,h0,h1,h2,h3⟩:=h
 exact ⟨A,c,(hb.block r hl).trans h0,h1,h2,h3.moved (Z0.of_below hb) hl⟩
theorem Ui {w:World} {b:Nat} {z0 z1:Value} {t:TypeId} (h:w.heap[b]? = some (.cells #[z0,z1] t (0,0))):w.cell? ⟨b,0,none⟩=some z0∧w.cell? ⟨b,1,none⟩=some z1∧w.frozen? ⟨b,0,none⟩=false∧w.frozen? ⟨b,1,none⟩=false:=by
 refine ⟨?_,?_,?_,?_⟩
 · simp only [World.cell?,h];rfl
 · simp only [World.cell?,h];rfl
 · simp [World.frozen?,h]
 · simp [World.frozen?,h]
def Y5 (e:Int):Ending:=.panicked [{ v:=.iface 145 (.agg #[.int .i64 e]),recovered:=false }]
def atB (k:Int) (s:ByteArray):List Tok→Bool
 | []=>false
 | t :: _=>t.1 == k && (t.2.toList == s.toList)
def Cn:List Tok→Bool
 | []=>false
 | t :: _=>t.1 == 2
theorem Jb (r:Nat) (ts:List Tok) (d:Nat) (w:World) (h:Rd w r ts d):Calls Tryz.prog 94 #[.pointer (some ⟨r,0,none⟩)] w fun e w'=>e=.returned (.bool ts.isEmpty)∧w=w':=by
 obtain ⟨A,c,h0,h1,h2,h3⟩:=h
 obtain ⟨c0,c1,_,_⟩:=Ui h0
 have he:((ts.length:Int) == 0)=ts.isEmpty:=by cases ts<;>simp;omega
 obtain ⟨b,hb⟩:∃ b,ts.isEmpty=b:=⟨_,rfl⟩
 rw [hb] at he ⊢
 clear h0 h3 hb
 generalize ts.length=n at *
 go_enter Tryz.func94,Tryz.ntmps94
 go_wp2_with fail
 go_ret
 exact ⟨rfl,rfl⟩
theorem U6 (r:Nat) (ts:List Tok) (d:Nat) (k:Int) (s:ByteArray) (w:World) (h:Rd w r ts d):Calls Tryz.prog 95 #[.pointer (some ⟨r,0,none⟩),.int .i64 k,.string s] w fun e w'=>e=.returned (.bool (atB k s ts))∧w=w':=by
 have HE:=Hd (Jb r ts d w h)
 obtain ⟨A,c,h0,h1,h2,h3⟩:=h
 obtain ⟨c0,c1,_,_⟩:=Ui h0
 cases ts with
 | nil =>
   clear h0 h3
   go_enter Tryz.func95,Tryz.ntmps95
   go_wp2_with fail
   refine HE.out.mono ?_
   rintro e w1 ⟨rfl,rfl⟩
   go_wp2_with fail
   go_ret
   exact ⟨rfl,rfl⟩
 | cons t ts =>
   obtain ⟨b,o,rfl,hb,g0,g1⟩:=h3 0 t rfl
   obtain ⟨tk,tx⟩:=t
   simp only [Nat.zero_mul,Nat.add_zero] at g0 g1
   have hr:Hid (atB k s ((tk,tx) :: ts)=(tk == k && (tx.toList == s.toList))):=Hd rfl
   have hn:(0:Int) < (((tk,tx) :: ts).length:Int):=by simp
   have hn2:((tk,tx) :: ts).length=ts.length+1:=rfl
   clear h0 h3
   go_enter Tryz.func95,Tryz.ntmps95
   go_wp2_with fail
   refine HE.out.mono ?_
   rintro e w1 ⟨rfl,rfl⟩
   go_wp2_with fail
   all_goals
    go_ret
    exact ⟨Yy (by rw [hr.out];simp [*]),rfl⟩
theorem Nb (r:Nat) (ts:List Tok) (d:Nat) (w:World) (h:Rd w r ts d):Calls Tryz.prog 174 #[.pointer (some ⟨r,0,none⟩)] w fun e w'=>e=.returned (.bool (Cn ts))∧w=w':=by
 have HE:=Hd (Jb r ts d w h)
 obtain ⟨A,c,h0,h1,h2,h3⟩:=h
 obtain ⟨c0,c1,_,_⟩:=Ui h0
 cases ts with
 | nil =>
   clear h0 h3
   go_enter Tryz.func174,Tryz.ntmps174
   go_wp2_with fail
   refine HE.out.mono ?_
   rintro e w1 ⟨rfl,rfl⟩
   go_wp2_with fail
   go_ret
   exact ⟨rfl,rfl⟩
 | cons t ts =>
   obtain ⟨b,o,rfl,hb,g0,g1⟩:=h3 0 t rfl
   obtain ⟨tk,tx⟩:=t
   simp only [Nat.zero_mul,Nat.add_zero] at g0 g1
   have hn:(0:Int) < (((tk,tx) :: ts).length:Int):=by simp
   have hn2:((tk,tx) :: ts).length=ts.length+1:=rfl
   clear h0 h3
   go_enter Tryz.func174,Tryz.ntmps174
   go_wp2_with fail
   refine HE.out.mono ?_
   rintro e w1 ⟨rfl,rfl⟩
   go_wp2_with fail
   go_ret
   exact ⟨rfl,rfl⟩
theorem Zx1 (w:World) (r:Nat) (v:Value) (o o':Obj):(((w.setCell ⟨r,0,none⟩ v).alloc o).alloc o').heap[w.heap.size]? = some o:=by
 have h1:(w.setCell ⟨r,0,none⟩ v).heap.size=w.heap.size:=by simp [World.setCell]
 rw [Below.heap_alloc _ _ _ (by simp [h1])]
 have:=heap_alloc_new (w.setCell ⟨r,0,none⟩ v) o
 rwa [h1] at this
theorem Wb {R:Ending→World→Prop} {fn:Func} {a:Act} {W:World} {c0 c1:Value} {p b:Nat} (hf:fn.results=#[.cell p 70]) (h2:a.tmps.getD p undef=.pointer (some ⟨b,0,none⟩)) (hd:a.defers=[])
  (hc:W.heap[b]? = some (.cells #[c0,c1] 70 (0,0))) (hR:R (.returned (.agg #[c0,c1])) W):bodyPost Tryz.prog fn R .ret a W:=by
 have hl:(loadVar 70 ⟨b,0,none⟩).run Tryz.prog W=.ok (.agg #[c0,c1]) W:=
  run_loadVar_row W b 70 70 #[c0,c1] (0,0) _ hc Tryz.underlying70 rfl (by kernel_rfl)
 refine bodyPost_ret ?_ hd hR
 have h2':a.tmps[p]?.getD undef=.pointer (some ⟨b,0,none⟩):=by rw [← h2];simp
 simp [results,hf,h2',asAddr,hl]
theorem Mv {w:World} {r:Nat} {x y v:Value} {tt:TypeId} {o o':Obj} (h:w.heap[r]? = some (.cells #[x,y] tt (0,0))):(((w.setCell ⟨r,0,none⟩ v).alloc o).alloc o').heap[r]? = some (.cells #[v,y] tt (0,0))∧Z0 r w (((w.setCell ⟨r,0,none⟩ v).alloc o).alloc o'):=by
 have hl:r < w.heap.size:=(Array.getElem?_eq_some_iff.1 h).1
 have h1:(w.setCell ⟨r,0,none⟩ v).heap.size=w.heap.size:=by simp [World.setCell]
 refine ⟨?_,Z0.set.trans ((Z0.of_below ((Below.refl _ _).alloc (Nat.le_refl _) o)).trans (Z0.of_below ((Below.refl _ _).alloc (Nat.le_refl _) o')))⟩
 rw [Below.heap_alloc _ _ _ (by simp [h1];omega),Below.heap_alloc _ _ _ (by rw [h1];exact hl)]
 exact heap_setCell_same _ r 0 _ _ _ h
theorem Yk1 (b o:Nat):(⟨b,o,none⟩:Addr).add 2=⟨b,o+2,none⟩:=by unfold Addr.add;split<;>simp_all
theorem Yei {w w2:World} {r:Nat} {t:Tok} {ts:List Tok} {d c:Nat} {b o:Nat} (hA:Ef w r (some ⟨b,o,none⟩) (t :: ts)) (hr:r < w.heap.size) (hlen:ts.length≤200000) (hc:ts.length≤c)
  (hm:Z0 r w w2) (h2:w2.heap[r]? = some (.cells #[.slice (some ⟨b,o+2,none⟩) ts.length c,.int .i64 d] 147 (0,0))):Rd w2 r ts d:=by
 refine ⟨_,c,h2,hc,hlen,fun j u hu=>?_⟩
 obtain ⟨b',o',e,hb,g0,g1⟩:=(hA.moved hm hr) (j+1) u (by simpa using hu)
 injection e with e
 injection e with e1 e2
 subst e1 e2
 exact ⟨b,o+2,rfl,hb,by rw [show o+2+j*2=o+(j+1)*2 by omega];exact g0,by rw [show o+2+j*2+1=o+(j+1)*2+1 by omega];exact g1⟩
theorem Zzc (r d:Nat) (w:World) (h:Rd w r [] d):Calls Tryz.prog 119 #[.pointer (some ⟨r,0,none⟩)] w fun e w'=>e=Y5 2∧Z0 r w w':=by
 have HE:=fun wx hb=>Hd (Jb r [] d wx (h.below (w':=wx) hb))
 have hb0:=Hd (fun o=>(Below.refl w.heap.size w).alloc (Nat.le_refl _) o)
 clear h
 go_enter Tryz.func119,Tryz.ntmps119
 go_wp2_with fail
 refine (HE _ (hb0.out _)).out.mono ?_
 rintro e w1 ⟨rfl,rfl⟩
 go_wp2_with fail
 exact ⟨rfl,rfl,Z0.of_below (hb0.out _)⟩
theorem Di (r:Nat) (t:Tok) (ts:List Tok) (d:Nat) (w:World) (h:Rd w r (t :: ts) d):Calls Tryz.prog 119 #[.pointer (some ⟨r,0,none⟩)] w fun e w'=>e=.returned (.agg #[.int .i64 t.1,.string t.2])∧Rd w' r ts d∧Z0 r w w':=by
 have HE:=fun wx hb=>Hd (Jb r (t :: ts) d wx (h.below (w':=wx) hb))
 have hb0:=Hd (fun o=>(Below.refl w.heap.size w).alloc (Nat.le_refl _) o)
 have hl:=h.lt
 obtain ⟨A,c,h0,h1,h2,h3⟩:=h
 obtain ⟨b,o,rfl,hb,g0,g1⟩:=h3 0 t rfl
 have H3:=Hd h3
 obtain ⟨tk,tx⟩:=t
 simp only [Nat.zero_mul,Nat.add_zero] at g0 g1
 have hcell0:(w.alloc (.cells #[.int .i64 0,.string ⟨#[]⟩] 70)).heap[r]? = some (.cells #[.slice (some ⟨b,o,none⟩) (ts.length+1) c,.int .i64 d] 147 (0,0)):=((hb0.out _).block r hl).trans h0
 obtain ⟨c0,c1,z0,z1⟩:=Ui hcell0
 have e0:=((hb0.out (.cells #[.int .i64 0,.string ⟨#[]⟩] 70)).cell (p:=⟨b,o,none⟩) (by simp;omega)).trans g0
 have e1:=((hb0.out (.cells #[.int .i64 0,.string ⟨#[]⟩] 70)).cell (p:=⟨b,o+1,none⟩) (by simp;omega)).trans g1
 have hlen:ts.length+1≤200000:=by simpa using h2
 have hcap:ts.length+1≤c:=by simpa using h1
 have hsl:=Yk1 b o
 have H0:=Hd h0
 have HL:=Hd hl
 clear h0 h3 h1 h2 g0 g1
 by_cases hc1:c=1
 · subst hc1
   obtain rfl:ts=[]:=List.length_eq_zero_iff.1 (by omega)
   go_enter Tryz.func119,Tryz.ntmps119
   go_wp2_with fail
   refine (HE _ (hb0.out _)).out.mono ?_
   rintro e w1 ⟨rfl,rfl⟩
   go_wp2_with fail
   refine Wb rfl rfl rfl (Zx1 _ _ _ _ _) ?_
   obtain ⟨t1,t2⟩:=Mv (v:=.slice (some ⟨b,o,none⟩) 0 0) (o:=.cells #[.int .i64 tk,.string tx] 70) (o':=.cells #[.int .i64 tk,.string tx] 70) H0.out
   exact ⟨rfl,⟨_,0,t1,Nat.le_refl _,by simp,fun j u hu=>by simp at hu⟩,t2⟩
 · obtain ⟨c',rfl⟩:∃ c',c=c'+1:=⟨c - 1,by omega⟩
   have hc':0 < c':=by omega
   go_enter Tryz.func119,Tryz.ntmps119
   go_wp2_with fail
   refine (HE _ (hb0.out _)).out.mono ?_
   rintro e w1 ⟨rfl,rfl⟩
   go_wp2_with fail
   refine Wb rfl rfl rfl (Zx1 _ _ _ _ _) ?_
   obtain ⟨t1,t2⟩:=Mv (v:=.slice (some ⟨b,o+2,none⟩) ts.length c') (o:=.cells #[.int .i64 tk,.string tx] 70) (o':=.cells #[.int .i64 tk,.string tx] 70) H0.out
   exact ⟨rfl,Yei H3.out HL.out (by omega) (by omega) t2 t1,t2⟩
theorem Yj0 {k:Int} {s:ByteArray} {ts:List Tok} (h:atB k s ts=true):∃ t,ts=t :: ts.tail:=by
 cases ts with
 | nil=>cases h
 | cons t ts=>exact ⟨t,rfl⟩
def Vj (k:Int) (s:ByteArray) (ts:List Tok):List Tok:=if atB k s ts=true then ts.tail else ts
theorem Zv (r:Nat) (ts:List Tok) (d:Nat) (k:Int) (s:ByteArray) (w:World) (h:Rd w r ts d):Calls Tryz.prog 97 #[.pointer (some ⟨r,0,none⟩),.int .i64 k,.string s] w fun e w'=>e=.returned (.bool (atB k s ts))∧Rd w' r (Vj k s ts) d∧Z0 r w w':=by
 have HA:=Hd (U6 r ts d k s w h)
 have H:=Hd h
 clear h
 cases hb:atB k s ts with
 | false =>
   rw [hb] at HA
   have hs:Hid (Vj k s ts=ts):=Hd (by unfold Vj;rw [hb];rfl)
   clear hb
   go_enter Tryz.func97,Tryz.ntmps97
   go_wp2_with fail
   refine HA.out.mono ?_
   rintro e w1 ⟨rfl,rfl⟩
   go_wp2_with fail
   go_ret
   exact ⟨rfl,by rw [hs.out];exact H.out,Z0.refl _ _⟩
 | true =>
   rw [hb] at HA
   have hs:Hid (Vj k s ts=ts.tail):=Hd (by unfold Vj;rw [hb];rfl)
   obtain ⟨t,ht⟩:=Yj0 hb
   have HT:=Hd (Di r t ts.tail d w (by rw [← ht];exact H.out))
   clear hb ht
   go_enter Tryz.func97,Tryz.ntmps97
   go_wp2_with fail
   refine HA.out.mono ?_
   rintro e w1 ⟨rfl,rfl⟩
   go_wp2_with fail
   refine HT.out.mono ?_
   rintro e w2 ⟨rfl,h2,m2⟩
   have H2:=Hd (And.intro h2 m2)
   clear h2 m2
   go_wp2_with fail
   go_ret
   exact ⟨rfl,by rw [hs.out];exact H2.out.1,H2.out.2⟩
theorem Iq (r:Nat) (ts:List Tok) (d:Nat) (k:Int) (s:ByteArray) (w:World) (h:Rd w r ts d):Calls Tryz.prog 178 #[.pointer (some ⟨r,0,none⟩),.int .i64 k,.string s] w fun e w'=>if atB k s ts=true then e=.returned (.tuple #[])∧Rd w' r ts.tail d∧Z0 r w w' else e=Y5 2∧Z0 r w w':=by
 have HA:=Hd (Zv r ts d k s w h)
 cases hb:atB k s ts with
 | false =>
   rw [hb] at HA
   simp only [Bool.false_eq_true,if_false]
   clear hb h
   go_enter Tryz.func178,Tryz.ntmps178
   go_wp2_with fail
   refine HA.out.mono ?_
   rintro e w1 ⟨rfl,h1,m1⟩
   have M1:=Hd m1
   clear h1 m1
   go_wp2_with fail
   exact ⟨rfl,rfl,M1.out⟩
 | true =>
   have hs:Hid (Vj k s ts=ts.tail):=Hd (by unfold Vj;rw [hb];rfl)
   rw [hb] at HA
   simp only [if_true]
   clear hb h
   go_enter Tryz.func178,Tryz.ntmps178
   go_wp2_with fail
   refine HA.out.mono ?_
   rintro e w1 ⟨rfl,h1,m1⟩
   rw [hs.out] at h1
   have M1:=Hd (And.intro h1 m1)
   clear h1 m1
   go_wp2_with fail
   go_end0
   exact ⟨rfl,M1.out.1,M1.out.2⟩
def Zb:List Tok→Option (ByteArray × List Tok)
 | []=>none
 | t :: ts=>if t.1=2 then some (t.2,ts) else none
theorem Yd (r:Nat) (ts:List Tok) (d:Nat) (w:World) (h:Rd w r ts d):Calls Tryz.prog 117 #[.pointer (some ⟨r,0,none⟩)] w fun e w'=>match Zb ts with
   | some (s,ts')=>e=.returned (.string s)∧Rd w' r ts' d∧Z0 r w w'
   | none=>e=Y5 2∧Z0 r w w':=by
 cases ts with
 | nil =>
   have HT:=Hd (Zzc r d w h)
   clear h
   show Calls _ _ _ _ fun e w'=>e=Y5 2∧Z0 r w w'
   go_enter Tryz.func117,Tryz.ntmps117
   go_wp2_with fail
   refine HT.out.mono ?_
   rintro e w1 ⟨rfl,m1⟩
   exact ⟨rfl,rfl,m1⟩
 | cons t ts =>
   obtain ⟨k,s⟩:=t
   have HT:=Hd (Di r (k,s) ts d w h)
   clear h
   by_cases hk:k=2
   · subst hk
     show Calls _ _ _ _ fun e w'=>e=.returned (.string s)∧Rd w' r ts d∧Z0 r w w'
     go_enter Tryz.func117,Tryz.ntmps117
     go_wp2_with fail
     refine HT.out.mono ?_
     rintro e w1 ⟨rfl,h1,m1⟩
     have H1:=Hd (And.intro h1 m1)
     clear h1 m1
     go_wp2_with fail
     go_ret
     exact ⟨rfl,H1.out.1.below ((Below.refl _ _).alloc (Nat.le_refl _) _),H1.out.2.trans (Z0.of_below ((Below.refl _ _).alloc (Nat.le_refl _) _))⟩
   · have hr:Zb ((k,s) :: ts)=none:=by show (if k=2 then some (s,ts) else none)=none;rw [if_neg hk]
     rw [hr]
     have hk':(k != 2)=true:=by simpa using hk
     clear hk hr
     go_enter Tryz.func117,Tryz.ntmps117
     go_wp2_with fail
     refine HT.out.mono ?_
     rintro e w1 ⟨rfl,h1,m1⟩
     have H1:=Hd (And.intro h1 m1)
     clear h1 m1
     go_wp2_with fail
     exact ⟨rfl,rfl,H1.out.2.trans (Z0.of_below ((Below.refl _ _).alloc (Nat.le_refl _) _))⟩
theorem Rd.deep {w:World} {r:Nat} {ts:List Tok} {d d':Nat} (h:Rd w r ts d) {z:Int} (hz:z=(d':Int)):Rd (w.setCell ⟨r,1,none⟩ (.int .i64 z)) r ts d'∧Z0 r w (w.setCell ⟨r,1,none⟩ (.int .i64 z)):=by
 subst hz
 have hl:=h.lt
 obtain ⟨A,c,h0,h1,h2,h3⟩:=h
 exact ⟨⟨A,c,heap_setCell_same _ r 1 _ _ _ h0,h1,h2,h3.moved Z0.set hl⟩,Z0.set⟩
theorem Dt (r:Nat) (ts:List Tok) (d:Nat) (w:World) (hd:d≤1000) (h:Rd w r ts (d+1)):Calls Tryz.prog 173 #[.pointer (some ⟨r,0,none⟩)] w fun e w'=>e=.returned (.tuple #[])∧Rd w' r ts d∧Z0 r w w':=by
 have H:=Hd h
 obtain ⟨A,c,h0,h1,h2,h3⟩:=h
 obtain ⟨c0,c1,z0,z1⟩:=Ui h0
 have hz:((d+1:Nat):Int) - 1=(d:Int):=by omega
 obtain ⟨D,hD⟩:∃ D,d+1=D:=⟨_,rfl⟩
 rw [hD] at c1 hz
 have HE:=Hd (H.out.deep (d':=d) rfl)
 have hDb:D≤1001:=by omega
 clear h0 h3 hD H
 go_enter Tryz.func173,Tryz.ntmps173
 go_wp2_with fail
 go_end0
 exact ⟨rfl,HE.out.1,HE.out.2⟩
theorem Du (r:Nat) (ts:List Tok) (d:Nat) (s:ByteArray) (w:World) (hd:d≤1000) (h:Rd w r ts d):Calls Tryz.prog 170 #[.pointer (some ⟨r,0,none⟩),.string s] w fun e w' =>
   if atB 1 s ts=true then (if d=16 then e=Y5 4∧Z0 r w w' else e=.returned (.tuple #[])∧Rd w' r ts.tail (d+1)∧Z0 r w w') else e=Y5 2∧Z0 r w w':=by
 have HA:=Hd (U6 r ts d 1 s w h)
 have HN:=Hd (Iq r ts d 1 s w h)
 have H:=Hd h
 obtain ⟨A,c,h0,h1,h2,h3⟩:=h
 obtain ⟨c0,c1,z0,z1⟩:=Ui h0
 cases hb:atB 1 s ts with
 | false =>
   rw [hb] at HA HN
   simp only [Bool.false_eq_true,if_false] at HN ⊢
   clear hb h0 h3
   go_enter Tryz.func170,Tryz.ntmps170
   go_wp2_with fail
   refine HA.out.mono ?_
   rintro e w1 ⟨rfl,rfl⟩
   go_wp2_with fail
   refine HN.out.mono ?_
   rintro e w2 ⟨rfl,m2⟩
   exact ⟨rfl,rfl,m2⟩
 | true =>
   rw [hb] at HA HN
   simp only [if_true] at HN ⊢
   clear hb h0 h3
   by_cases h16:d=16
   · subst h16
     simp only [if_true]
     go_enter Tryz.func170,Tryz.ntmps170
     go_wp2_with fail
     refine HA.out.mono ?_
     rintro e w1 ⟨rfl,rfl⟩
     go_wp2_with fail
     exact ⟨rfl,rfl,Z0.refl _ _⟩
   · simp only [h16,if_false]
     have h16':((d:Int) == 16)=false:=by simp;omega
     clear h16
     go_enter Tryz.func170,Tryz.ntmps170
     go_wp2_with fail
     refine HA.out.mono ?_
     rintro e w1 ⟨rfl,rfl⟩
     go_wp2_with fail
     refine HN.out.mono ?_
     rintro e w2 ⟨rfl,r2,m2⟩
     have HE:=Hd (r2.deep (z:=(d:Int)+1) (d':=d+1) (by omega))
     have M2:=Hd m2
     obtain ⟨A2,c2,g0,_,_,_⟩:=r2
     obtain ⟨y0,y1,x0,x1⟩:=Ui g0
     clear g0 m2 c0 c1 z0 z1
     go_wp2_with fail
     go_end0
     exact ⟨rfl,HE.out.1,M2.out.trans HE.out.2⟩
def Yh (n:List UInt8) (l m:Int):Bool:=Uk n && (decide (0≤l) && (decide (l≤4) && (decide (0≤m) && decide (m < 2 ^ (l.toNat+1)))))
theorem Zz {w:World} {cs:Array Value} {t:TypeId} : Below w.heap.size w (w.alloc (.cells cs t)):=(Below.refl _ _).alloc (Nat.le_refl _) _
theorem Lv {B:Nat} {a w:World} (h:Below B a w) (n:Nat):Below B a (w.drewN n):=⟨h.os,h.tape,h.output,h.size,h.block⟩
theorem It {a b:Bool} (h:a=b):Ending.returned (.bool a)=.returned (.bool b):=by rw [h]
theorem Zya {n:List UInt8} {l m:Int} (h:Yh n l m=true):Uk n=true∧0≤l∧l≤4∧0≤m∧m < 2 ^ (l.toNat+1):=by
 simpa [Yh] using h
theorem Zz0 {n:List UInt8} {l m:Int} (h:Yh n l m=true):0≤l∧l≤4∧0≤m∧m < 32:=by
 obtain ⟨_,h1,h2,h3,h4⟩:=Zya h
 refine ⟨h1,h2,h3,?_⟩
 have:l=0∨l=1∨l=2∨l=3∨l=4:=by omega
 rcases this with rfl|rfl|rfl|rfl|rfl<;>simp at h4<;>omega
theorem Ev {n:List UInt8} {l m:Int} (hn:Uk n=true) (h1:0≤l) (h2:l≤4) (h3:0≤m) (h4:m < 2 ^ (l.toNat+1)):Yh n l m=true:=by
 simp [Yh,hn,h1,h2,h3,h4]
theorem Ynu {l:Int} (h0:0≤l) (h4:l≤4):l=0∨l=1∨l=2∨l=3∨l=4:=by omega
theorem Nt (n:ByteArray) (l m:Int) (w:World) (hn:n.size≤9000):Calls Tryz.prog 213 #[.agg #[.string n,.int .i64 l,.int .i64 m]] w fun e w'=>e=.returned (.bool (Yh n.data.toList l m))∧Below w.heap.size w w':=by
 have HN:=fun w=>Hd (Zks n w (by omega))
 have HB:=Hd (Zz (w:=w) (cs:=#[.string n,.int .i64 l,.int .i64 m]) (t:=39))
 cases hb:Uk n.data.toList
 · have hr:Hid (Yh n.data.toList l m=false):=Hd (by simp [Yh,hb])
   rw [hb] at HN
   clear hb
   go_enter Tryz.func213,Tryz.ntmps213
   go_wp2
   go_quiet (exact (HN _).out.mono fun _ _ h=>⟨h.1,_,h.2.symm⟩)
   go_wp2
   go_ret
   exact ⟨It hr.out.symm,Lv HB.out _⟩
 · rw [hb] at HN
   have hb':=Hd hb
   clear hb
   by_cases h1:0≤l
   · by_cases h2:l≤4
     · by_cases h3:0≤m
       · have t1:decide ((0:Int)≤m)=true:=by simpa using h3
         rcases Ynu h1 h2 with rfl|rfl|rfl|rfl|rfl
         · by_cases h4:m < 2
           · have hr:Hid (Yh n.data.toList 0 m=true):=Hd (Ev hb'.out (by omega) (by omega) h3 (by simpa using h4))
             have t2:decide (m < 2)=true:=by simpa using h4
             go_enter Tryz.func213,Tryz.ntmps213
             go_wp2
             go_quiet (exact (HN _).out.mono fun _ _ h=>⟨h.1,_,h.2.symm⟩)
             go_wp2
             go_ret
             exact ⟨It hr.out.symm,Lv HB.out _⟩
           · have hr:Hid (Yh n.data.toList 0 m=false):=Hd (by simp [Yh];intro _ _;simp at h4;omega)
             have t2:decide (m < 2)=false:=by simpa using h4
             go_enter Tryz.func213,Tryz.ntmps213
             go_wp2
             go_quiet (exact (HN _).out.mono fun _ _ h=>⟨h.1,_,h.2.symm⟩)
             go_wp2
             go_ret
             exact ⟨It hr.out.symm,Lv HB.out _⟩
         · by_cases h4:m < 4
           · have hr:Hid (Yh n.data.toList 1 m=true):=Hd (Ev hb'.out (by omega) (by omega) h3 (by simpa using h4))
             have t2:decide (m < 4)=true:=by simpa using h4
             go_enter Tryz.func213,Tryz.ntmps213
             go_wp2
             go_quiet (exact (HN _).out.mono fun _ _ h=>⟨h.1,_,h.2.symm⟩)
             go_wp2
             go_ret
             exact ⟨It hr.out.symm,Lv HB.out _⟩
           · have hr:Hid (Yh n.data.toList 1 m=false):=Hd (by simp [Yh];intro _ _;simp at h4;omega)
             have t2:decide (m < 4)=false:=by simpa using h4
             go_enter Tryz.func213,Tryz.ntmps213
             go_wp2
             go_quiet (exact (HN _).out.mono fun _ _ h=>⟨h.1,_,h.2.symm⟩)
             go_wp2
             go_ret
             exact ⟨It hr.out.symm,Lv HB.out _⟩
         · by_cases h4:m < 8
           · have hr:Hid (Yh n.data.toList 2 m=true):=Hd (Ev hb'.out (by omega) (by omega) h3 (by simpa using h4))
             have t2:decide (m < 8)=true:=by simpa using h4
             go_enter Tryz.func213,Tryz.ntmps213
             go_wp2
             go_quiet (exact (HN _).out.mono fun _ _ h=>⟨h.1,_,h.2.symm⟩)
             go_wp2
             go_ret
             exact ⟨It hr.out.symm,Lv HB.out _⟩
           · have hr:Hid (Yh n.data.toList 2 m=false):=Hd (by simp [Yh];intro _ _;simp at h4;omega)
             have t2:decide (m < 8)=false:=by simpa using h4
             go_enter Tryz.func213,Tryz.ntmps213
             go_wp2
             go_quiet (exact (HN _).out.mono fun _ _ h=>⟨h.1,_,h.2.symm⟩)
             go_wp2
             go_ret
             exact ⟨It hr.out.symm,Lv HB.out _⟩
         · by_cases h4:m < 16
           · have hr:Hid (Yh n.data.toList 3 m=true):=Hd (Ev hb'.out (by omega) (by omega) h3 (by simpa using h4))
             have t2:decide (m < 16)=true:=by simpa using h4
             go_enter Tryz.func213,Tryz.ntmps213
             go_wp2
             go_quiet (exact (HN _).out.mono fun _ _ h=>⟨h.1,_,h.2.symm⟩)
             go_wp2
             go_ret
             exact ⟨It hr.out.symm,Lv HB.out _⟩
           · have hr:Hid (Yh n.data.toList 3 m=false):=Hd (by simp [Yh];intro _ _;simp at h4;omega)
             have t2:decide (m < 16)=false:=by simpa using h4
             go_enter Tryz.func213,Tryz.ntmps213
             go_wp2
             go_quiet (exact (HN _).out.mono fun _ _ h=>⟨h.1,_,h.2.symm⟩)
             go_wp2
             go_ret
             exact ⟨It hr.out.symm,Lv HB.out _⟩
         · by_cases h4:m < 32
           · have hr:Hid (Yh n.data.toList 4 m=true):=Hd (Ev hb'.out (by omega) (by omega) h3 (by simpa using h4))
             have t2:decide (m < 32)=true:=by simpa using h4
             go_enter Tryz.func213,Tryz.ntmps213
             go_wp2
             go_quiet (exact (HN _).out.mono fun _ _ h=>⟨h.1,_,h.2.symm⟩)
             go_wp2
             go_ret
             exact ⟨It hr.out.symm,Lv HB.out _⟩
           · have hr:Hid (Yh n.data.toList 4 m=false):=Hd (by simp [Yh];intro _ _;simp at h4;omega)
             have t2:decide (m < 32)=false:=by simpa using h4
             go_enter Tryz.func213,Tryz.ntmps213
             go_wp2
             go_quiet (exact (HN _).out.mono fun _ _ h=>⟨h.1,_,h.2.symm⟩)
             go_wp2
             go_ret
             exact ⟨It hr.out.symm,Lv HB.out _⟩
       · have hr:Hid (Yh n.data.toList l m=false):=Hd (by simp [Yh];omega)
         have t1:decide ((0:Int)≤m)=false:=by simpa using h3
         go_enter Tryz.func213,Tryz.ntmps213
         go_wp2
         go_quiet (exact (HN _).out.mono fun _ _ h=>⟨h.1,_,h.2.symm⟩)
         go_wp2
         go_ret
         exact ⟨It hr.out.symm,Lv HB.out _⟩
     · have hr:Hid (Yh n.data.toList l m=false):=Hd (by simp [Yh];omega)
       have t1:decide (l≤(4:Int))=false:=by simpa using h2
       go_enter Tryz.func213,Tryz.ntmps213
       go_wp2
       go_quiet (exact (HN _).out.mono fun _ _ h=>⟨h.1,_,h.2.symm⟩)
       go_wp2
       go_ret
       exact ⟨It hr.out.symm,Lv HB.out _⟩
   · have hr:Hid (Yh n.data.toList l m=false):=Hd (by simp [Yh];omega)
     have t1:decide ((0:Int)≤l)=false:=by simpa using h1
     go_enter Tryz.func213,Tryz.ntmps213
     go_wp2
     go_quiet (exact (HN _).out.mono fun _ _ h=>⟨h.1,_,h.2.symm⟩)
     go_wp2
     go_ret
     exact ⟨It hr.out.symm,Lv HB.out _⟩
end Go.Proofs.YtpkmbhnikilihaaGreatDoor
