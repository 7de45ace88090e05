/- seineref6.SameDirs over equal directives. -/
import Derived.Test.YtkacnnhdfkpenaaGreatDoorSj31
set_option maxRecDepth 100000
set_option maxHeartbeats 4000000
namespace Go.Proofs.YtkacnnhdfkpenaaGreatDoor
open Go.RowKit
theorem rowOf_at {α:Type} {f:α→TrS} {w:World} {P:Nat→Prop} (n:Nat) (hn:∀ a,(f a).len=n):∀ {l:List α} {A:Option Addr} {q:Nat} {x:α},RowT w P (rowOf f l) A→l[q]? = some x →
   ∃ b o cs,A=some ⟨b,o,none⟩∧P b∧(∀ j u,cs[j]? = some u→w.cell? ⟨b,o+q*n+j,none⟩=some u)∧TS w P (f x) cs
 | [],_,_,_,_,h=>by simp at h
 | a :: t,A,0,x,h,hx=>by
   obtain rfl:a=x:=by simpa using hx
   rw [rowOf] at h
   unfold RowT at h
   obtain ⟨b,o,cs,e,hb,hc,h1,_⟩:=h
   exact ⟨b,o,cs,e,hb,fun j u hj=>by rw [Nat.zero_mul,Nat.add_zero];exact hc j u hj,h1⟩
 | a :: t,A,q+1,x,h,hx=>by
   rw [rowOf] at h
   unfold RowT at h
   obtain ⟨b,o,cs,e,hb,hc,h1,h2⟩:=h
   have hx:t[q]? = some x:=by simpa using hx
   obtain ⟨b',o',cs',e',hb',hc',h1'⟩:=rowOf_at n hn h2 hx
   have e':=Option.some.inj e'
   injection e' with e1 e2 _
   subst e1 e2
   rw [hn] at hc'
   exact ⟨b,o,cs',e,hb,fun j u hj=>by rw [Nat.add_mul,Nat.one_mul,Nat.add_comm (q*n) n,← Nat.add_assoc];exact hc' j u hj,h1'⟩
theorem RowT.below {w w':World} {B:Nat} (hb:Below B w w') {l:TrL} {A:Option Addr} (h:RowT w (fun b=>b < B) l A):RowT w' (fun b=>b < B) l A:=
 RowT.keep (fun b hlt=>⟨hlt,hb.block b hlt⟩) _ _ h
theorem mat_of {w:World} {B:Nat} {m:VM} {A:Option Addr} (h:RowT w (fun b=>b < B) (encM m) A):MAt w B m A 0:=MP.at (fun _ h=>h) m A 0 (tl_mp m A 0 (by rw [Nat.zero_mul,shiftA_zero];exact h))
theorem encD_len (d:DirT):(encD d).len=2:=rfl
theorem dir_at {w:World} {B:Nat} {l:List DirT} {A:Option Addr} {q:Nat} {nm:ByteArray} {m:VM} (h:RowT w (fun b=>b < B) (rowOf encD l) A) (hx:l[q]? = some (nm,m)) :
  ∃ b o A2 k2,A=some ⟨b,o,none⟩∧b < B∧w.cell? ⟨b,o+q*2,none⟩=some (.string nm)∧w.cell? ⟨b,o+q*2+1,none⟩=some (.slice A2 m.len k2)∧m.len≤9223372036854775807∧MAt w B m A2 0:=by
 obtain ⟨b,o,cs,e,hb,hc,h1⟩:=rowOf_at 2 encD_len h hx
 simp only [encD,TS,TP] at h1
 obtain ⟨c0,_,rfl,⟨rfl,_⟩,c1,_,rfl,⟨A2,k2,rfl,hl,hM⟩,rfl⟩:=h1
 rw [encM_len] at hc hl
 exact ⟨b,o,A2,k2,e,hb,hc 0 _ rfl,hc 1 _ rfl,hl,mat_of hM⟩
theorem memb_yes (m:VM) (A A':Option Addr) (c c':Nat) (w:World) (B:Nat) (hB:B≤w.heap.size) (hl:m.len≤9223372036854775807) (h1:MAt w B m A 0) (h2:MAt w B m A' 0) :
  Calls Tryz.prog 200 #[.slice A m.len c,.slice A' m.len c'] w fun e w'=>e=.returned (.bool true)∧Below w.heap.size w w':=by
 refine (vmemb_any m m A A' c c' w B hB hl hl h1 h2).mono ?_
 rintro e' w' ⟨⟨b,rfl,hb⟩,hw⟩
 rw [hb.2 rfl]
 exact ⟨rfl,hw⟩
def KD (w:World) (b O:Nat) (nm d:Value) (b' O':Nat) (nm' f:Value) (W:World):Prop:=
 W.cell? ⟨b,O,none⟩=some nm∧W.cell? ⟨b,O+1,none⟩=some d∧W.cell? ⟨b',O',none⟩=some nm'∧W.cell? ⟨b',O'+1,none⟩=some f∧Below w.heap.size w W
theorem KD.next {w W W':World} {b O:Nat} {nm d:Value} {b' O':Nat} {nm' f:Value} (h:KD w b O nm d b' O' nm' f W) (hl:b < w.heap.size) (hl':b' < w.heap.size) (hb:Below W.heap.size W W'):KD w b O nm d b' O' nm' f W':=by
 obtain ⟨h1,h2,h3,h4,hB⟩:=h
 have g:=Nat.lt_of_lt_of_le hl hB.size
 have g':=Nat.lt_of_lt_of_le hl' hB.size
 exact ⟨(hb.cell (p:=⟨b,_,none⟩) g).trans h1,(hb.cell (p:=⟨b,_,none⟩) g).trans h2,(hb.cell (p:=⟨b',_,none⟩) g').trans h3,(hb.cell (p:=⟨b',_,none⟩) g').trans h4,hB.trans (hb.mono hB.size)⟩
theorem KD.written {w W:World} {b O:Nat} {nm d:Value} {b' O':Nat} {nm' f:Value} (h:KD w b O nm d b' O' nm' f W) :
  W.cell? ⟨b,O,none⟩=some nm∧W.cell? ⟨b,O+1,none⟩=some d∧W.cell? ⟨b',O',none⟩=some nm'∧W.cell? ⟨b',O'+1,none⟩=some f∧KD w b O nm d b' O' nm' f W:=
 ⟨h.1,h.2.1,h.2.2.1,h.2.2.2.1,h⟩
theorem dirs_yes (l:List DirT) (A A':Option Addr) (c c':Nat) (w:World) (B:Nat) (hB:B≤w.heap.size) (hl:l.length≤9223372036854775807) (h1:RowT w (fun b=>b < B) (rowOf encD l) A) (h2:RowT w (fun b=>b < B) (rowOf encD l) A') :
  Calls Tryz.prog 126 #[.slice A l.length c,.slice A' l.length c'] w fun e w'=>e=.returned (.bool true)∧Below w.heap.size w w':=by
 have H1:=Hd h1
 have H2:=Hd h2
 have HB0:=Hd hB
 clear h1 h2 hB
 have e0:((l.length:Int) != (l.length:Int))=false:=by simp
 go_enter Tryz.func126,Tryz.ntmps126
 go_wp2_with fail
 go_loopg [5] l.length (fun g i wx=>∃ q:Nat,q+g=l.length∧i=.int .i64 q∧Below w.heap.size w wx)
 case atStart=>exact ⟨0,by omega,rfl,Below.refl _ _⟩
 case round =>
  obtain ⟨q,hq,rfl,hb⟩:=hrel
  have HBB:=Hd hb
  clear hb
  cases gk with
  | zero =>
    obtain rfl:q=l.length:=by omega
    go_wp2_with fail
    go_ret
    exact ⟨rfl,HBB.out⟩
  | succ g =>
    have hqn:q < l.length:=by omega
    have hqn':(q:Int) < (l.length:Int):=by omega
    obtain ⟨⟨nm,m⟩,hv⟩:∃ x,l[q]? = some x:=⟨_,List.getElem?_eq_getElem hqn⟩
    obtain ⟨b,o,A2,k2,rfl,hblt,hnm,hcs,hml,hM⟩:=dir_at (RowT.below (HBB.out.mono HB0.out) H1.out) hv
    obtain ⟨b',o',A3,k3,rfl,hblt',hnm',hcs',_,hM'⟩:=dir_at (RowT.below (HBB.out.mono HB0.out) H2.out) hv
    clear hv
    have e1:(nm.toList != nm.toList)=false:=by simp
    have e1':(nm.toList == nm.toList)=true:=by simp
    have HBW:Hid (b < w.heap.size):=Hd (Nat.lt_of_lt_of_le hblt HB0.out)
    have HBW':Hid (b' < w.heap.size):=Hd (Nat.lt_of_lt_of_le hblt' HB0.out)
    have hE0:KD w b (o+q*2) (.string nm) (.slice A2 m.len k2) b' (o'+q*2) (.string nm) (.slice A3 m.len k3) wr:=⟨hnm,hcs,hnm',hcs',HBB.out⟩
    have C:=fun (wx:World) (hx:Below wr.heap.size wr wx)=>Hd (memb_yes m A2 A3 k2 k3 wx B (Nat.le_trans HB0.out (Nat.le_trans HBB.out.size hx.size)) hml (MAt.below (hx.mono (Nat.le_trans HB0.out HBB.out.size)) _ _ _ hM) (MAt.below (hx.mono (Nat.le_trans HB0.out HBB.out.size)) _ _ _ hM'))
    clear hM hM' hblt hblt'
    go_wp2_with fail
    go_region_held3 (fun w'=>w'.cell? ⟨b,o+q*2,none⟩=some (.string nm)∧w'.cell? ⟨b,o+q*2+1,none⟩=some (.slice A2 m.len k2)∧w'.cell? ⟨b',o'+q*2,none⟩=some (.string nm)∧w'.cell? ⟨b',o'+q*2+1,none⟩=some (.slice A3 m.len k3)∧KD w b (o+q*2) (.string nm) (.slice A2 m.len k2) b' (o'+q*2) (.string nm) (.slice A3 m.len k3) w')
     (first
      | exact KD.written (KD.next hE0 HBW.out HBW'.out (Below.drew (Below.refl _ _)))
      | exact KD.written ((KD.next hE0 HBW.out HBW'.out (Below.drew (Below.refl _ _))).next HBW.out HBW'.out (by assumption))
      | exact KD.written (KD.next hE0 HBW.out HBW'.out (by assumption))
      | exact KD.written (KD.next (by assumption) HBW.out HBW'.out (by assumption))
      | go_keep)
     ((first|(go_at_call 200;refine (C _ (by first|exact Below.drew (Below.refl _ _)|exact Below.refl _ _|assumption)).out.mono ?_;rintro e w' ⟨rfl,hb⟩)))
    all_goals
     have HKM:KD w b (o+q*2) (.string nm) (.slice A2 m.len k2) b' (o'+q*2) (.string nm) (.slice A3 m.len k3) w':=And.right (And.right (And.right (And.right (by assumption))))
     have HKB:=Hd HKM.2.2.2.2
     clear HKM hE0 C hnm hcs hnm' hcs'
     go_wp2_with fail
     go_roundg g
     case measure=>omega
     case rel=>exact ⟨q+1,by omega,by go_num,HKB.out⟩
def isMut (d:DefnT):Bool:=d.name.toList == mutName.toList
theorem encDefn_len (d:DefnT):(encDefn d).len=6:=rfl
theorem defn_at {w:World} {B:Nat} {l:List DefnT} {A:Option Addr} {q:Nat} {x:DefnT} (h:RowT w (fun b=>b < B) (rowOf encDefn l) A) (hx:l[q]? = some x) :
  ∃ (b o:Nat) (c2 c3 c4 c5:Value),A=some ⟨b,o,none⟩∧b < B∧w.cell? ⟨b,o+q*6,none⟩=some (.int .i64 x.kind)∧w.cell? ⟨b,o+q*6+1,none⟩=some (.string x.name)∧w.cell? ⟨b,o+q*6+2,none⟩=some c2∧w.cell? ⟨b,o+q*6+3,none⟩=some c3∧w.cell? ⟨b,o+q*6+4,none⟩=some c4∧w.cell? ⟨b,o+q*6+5,none⟩=some c5:=by
 obtain ⟨b,o,cs,e,hb,hc,h1⟩:=rowOf_at 6 encDefn_len h hx
 unfold encDefn at h1
 simp only [TS,TP] at h1
 obtain ⟨c0,_,rfl,⟨rfl,_⟩,c1,_,rfl,⟨rfl,_⟩,c2,_,rfl,_,c3,_,rfl,_,c4,_,rfl,_,c5,_,rfl,_,rfl⟩:=h1
 exact ⟨b,o,_,_,_,_,e,hb,hc 0 _ rfl,hc 1 _ rfl,hc 2 _ rfl,hc 3 _ rfl,hc 4 _ rfl,hc 5 _ rfl⟩
theorem unt1_any (k:Int) (nm:ByteArray) (c2 c3 c4 c5:Value) (w:World):Calls Tryz.prog 230 #[.agg #[.int .i64 k,.string nm,c2,c3,c4,c5]] w fun e w'=>e=.returned (.bool (nm.toList == [77,117,116,97,116,105,111,110]))∧Below w.heap.size w w':=by
 have B1:=Hd (blw w (.cells #[.int .i64 k,.string nm,c2,c3,c4,c5] 68))
 have Z1:=heap_alloc_last w (.cells #[.int .i64 k,.string nm,c2,c3,c4,c5] 68)
 have y1:(w.alloc (.cells #[.int .i64 k,.string nm,c2,c3,c4,c5] 68)).cell? ⟨w.heap.size,1,none⟩=some (.string nm):=by simp only [World.cell?];rw [Z1];rfl
 clear Z1
 go_enter Tryz.func230,Tryz.ntmps230
 go_wp2_with fail
 go_ret
 exact ⟨rfl,B1.out⟩
theorem idx_any (l:List DefnT) (A:Option Addr) (c:Nat) (w:World) (hl:l.length≤9223372036854775807) (hA:RowT w (fun b=>b < w.heap.size) (rowOf encDefn l) A):Calls Tryz.prog 274 #[.slice A l.length c,.func (.func 230) #[] #[]] w fun e w'=>∃ z:Int,e=.returned (.int .i64 z)∧(decide (0≤z)=l.any isMut)∧Below w.heap.size w w':=by
 suffices H:∀ Q:Ending→World→Prop,(∀ e w',(∃ z:Int,e=.returned (.int .i64 z)∧(decide (0≤z)=l.any isMut)∧Below w.heap.size w w')→Q e w')→Calls Tryz.prog 274 #[.slice A l.length c,.func (.func 230) #[] #[]] w Q from H _ (fun _ _ h=>h)
 intro Q hQ
 have HQ:=Hd hQ
 have HA0:=Hd hA
 clear hQ hA
 go_enter Tryz.func274,Tryz.ntmps274
 go_wp2_with fail
 go_loopg [8] l.length (fun g i wx=>∃ q:Nat,q+g=l.length∧i=.int .i64 q∧Below w.heap.size w wx∧(l.take q).any isMut=false)
 case atStart=>exact ⟨0,by omega,rfl,Below.refl _ _,by simp⟩
 case round =>
  obtain ⟨q,hq,rfl,hb,hany⟩:=hrel
  have HBB:=Hd hb
  have HN:=Hd hany
  clear hb hany
  cases gk with
  | zero =>
    obtain rfl:q=l.length:=by omega
    go_wp2_with fail
    exact HQ.out _ _ ⟨-1,rfl,by have h:=HN.out;rw [List.take_length] at h;rw [h];decide,HBB.out⟩
  | succ g =>
    have hql:q < l.length:=by omega
    obtain ⟨b,o,c2,c3,c4,c5,rfl,hbl,g0,g1,g2,g3,g4,g5⟩:=defn_at HA0.out (List.getElem?_eq_getElem hql)
    have f0:=(HBB.out.cell (p:=⟨b,_,none⟩) hbl).trans g0
    have f1:=(HBB.out.cell (p:=⟨b,_,none⟩) hbl).trans g1
    have f2:=(HBB.out.cell (p:=⟨b,_,none⟩) hbl).trans g2
    have f3:=(HBB.out.cell (p:=⟨b,_,none⟩) hbl).trans g3
    have f4:=(HBB.out.cell (p:=⟨b,_,none⟩) hbl).trans g4
    have f5:=(HBB.out.cell (p:=⟨b,_,none⟩) hbl).trans g5
    have hqi:(q:Int) < (l.length:Int):=by omega
    have HX:Hid ((l.take (q+1)).any isMut=((l.take q).any isMut || isMut l[q])):=Hd (by rw [List.take_succ_eq_append_getElem hql,List.any_append];simp)
    have HI:Hid (isMut l[q]=(l[q].name.toList == [77,117,116,97,116,105,111,110])):=Hd (by unfold isMut;rw [show mutName.toList=[77,117,116,97,116,105,111,110] by decide +kernel])
    have HM:Hid (isMut l[q]=true→l.any isMut=true):=Hd (fun h=>List.any_eq_true.2 ⟨l[q],List.getElem_mem hql,h⟩)
    generalize l[q]=x at *
    clear g0 g1 g2 g3 g4 g5
    go_wp2_with fail
    refine (unt1_any x.kind x.name c2 c3 c4 c5 _).mono ?_
    rintro e w2 ⟨rfl,hb2⟩
    have B2:=Hd (HBB.out.trans (hb2.mono HBB.out.size))
    clear hb2 f0 f1 f2 f3 f4 f5
    cases ht:(x.name.toList == [77,117,116,97,116,105,111,110]) with
    | true =>
      have HT:=Hd (HM.out (HI.out.trans ht))
      go_wp2_with fail
      exact HQ.out _ _ ⟨(q:Int),rfl,by rw [HT.out];simp,B2.out⟩
    | false =>
      have HT:=Hd ht
      clear ht
      go_wp2_with fail
      go_roundg g
      case measure=>omega
      case rel=>exact ⟨q+1,by omega,rfl,B2.out,by rw [HX.out,HN.out,HI.out,HT.out];rfl⟩
theorem untold_any (l:List DefnT) (A:Option Addr) (c:Nat) (w:World) (hl:l.length≤9223372036854775807) (hA:RowT w (fun b=>b < w.heap.size) (rowOf encDefn l) A):Calls Tryz.prog 148 #[.slice A l.length c] w fun e w'=>e=.returned (.tuple #[.string queryName,.string (untold l)])∧Below w.heap.size w w':=by
 have HI:=Hd (idx_any l A c w hl hA)
 have HC:Hid (Calls Tryz.prog 229 #[.slice A l.length c,.func (.func 230) #[] #[]] w fun e w'=>e=.returned (.bool (l.any isMut))∧Below w.heap.size w w'):=Hd (by
   go_enter Tryz.func229,Tryz.ntmps229
   go_wp2_with fail
   refine HI.out.mono ?_
   rintro e w1 ⟨z,rfl,hz,hb⟩
   have B1:=Hd hb
   have HZ:=Hd hz
   clear hb hz
   go_wp2_with fail
   go_ret
   exact ⟨by rw [← HZ.out];rfl,B1.out⟩)
 have HU:Hid (untold l=if l.any isMut=true then mutName else eB):=Hd rfl
 generalize l.any isMut=m at *
 clear hA HI
 go_enter Tryz.func148,Tryz.ntmps148
 go_wp2_with fail
 refine HC.out.mono ?_
 rintro e w1 ⟨rfl,hb⟩
 have B1:=Hd hb
 clear hb HC
 cases m with
 | true =>
   go_wp2_with fail
   go_ret2
   exact ⟨by rw [HU.out];rfl,B1.out⟩
 | false =>
   go_wp2_with fail
   go_ret2
   exact ⟨by rw [HU.out];rfl,B1.out⟩
def layQ (_:World) (_:Nat→Prop) (a:ByteArray × ByteArray) (v:Value):Prop:=v=.tuple #[.string a.1,.string a.2]∧a.1.size≤9000∧a.2.size≤9000
theorem roots_any (d:Nat) (ts:List Tok) (r:Nat) (w:World) (hG:GoodD ts) (hR:Rd w r ts d):Calls Tryz.prog 146 #[.pointer (some ⟨r,0,none⟩)] w (Post r d w layQ (rootsR ts)):=by
 suffices H:∀ Q:Ending→World→Prop,(∀ e w',Post r d w layQ (rootsR ts) e w'→Q e w')→Calls Tryz.prog 146 #[.pointer (some ⟨r,0,none⟩)] w Q from H _ (fun _ _ h=>h)
 intro Q hQ
 have HQ:=Hd hQ
 have K0:=Hd (And.intro hR (Moved.refl r w))
 have G0:=Hd hG
 clear hQ hR hG
 go_enter Tryz.func146,Tryz.ntmps146
 go_wp2_with fail
 refine (need_any r (ts) d 1 omB _ K0.out.1).mono ?_
 intro e w1 h
 cases hb:atB 1 omB (ts) with
 | false =>
   rw [hb] at h
   simp only [Bool.false_eq_true,if_false] at h
   obtain ⟨rfl,m⟩:=h
   exact ⟨rfl,HQ.out _ _ (per (by simp only [rootsR,mutR,hb,if_true,if_false,Bool.false_eq_true]) (K0.out.2.trans m))⟩
 | true =>
   rw [hb] at h
   simp only [if_true] at h
   obtain ⟨rfl,rr,mm⟩:=h
   have E1:=Hd hb
   have G1:=Hd (G0.out.sub (at_sfx hb).1)
   have K1:=Hd (And.intro rr (K0.out.2.trans mm))
   clear rr mm hb
   go_wp2_with fail
   refine (need_any r (ts.tail) d 2 queryB _ K1.out.1).mono ?_
   intro e w2 h
   cases hb:atB 2 queryB (ts.tail) with
   | false =>
     rw [hb] at h
     simp only [Bool.false_eq_true,if_false] at h
     obtain ⟨rfl,m⟩:=h
     exact ⟨rfl,HQ.out _ _ (per (by simp only [rootsR,mutR,E1.out,hb,if_true,if_false,Bool.false_eq_true]) (K1.out.2.trans m))⟩
   | true =>
     rw [hb] at h
     simp only [if_true] at h
     obtain ⟨rfl,rr,mm⟩:=h
     have E2:=Hd hb
     have G2:=Hd (G1.out.sub (at_sfx hb).1)
     have K2:=Hd (And.intro rr (K1.out.2.trans mm))
     clear rr mm hb
     go_wp2_with fail
     refine (need_any r (ts.tail.tail) d 1 colB _ K2.out.1).mono ?_
     intro e w3 h
     cases hb:atB 1 colB (ts.tail.tail) with
     | false =>
       rw [hb] at h
       simp only [Bool.false_eq_true,if_false] at h
       obtain ⟨rfl,m⟩:=h
       exact ⟨rfl,HQ.out _ _ (per (by simp only [rootsR,mutR,E1.out,E2.out,hb,if_true,if_false,Bool.false_eq_true]) (K2.out.2.trans m))⟩
     | true =>
       rw [hb] at h
       simp only [if_true] at h
       obtain ⟨rfl,rr,mm⟩:=h
       have E3:=Hd hb
       have G3:=Hd (G2.out.sub (at_sfx hb).1)
       have K3:=Hd (And.intro rr (K2.out.2.trans mm))
       clear rr mm hb
       go_wp2_with fail
       refine (pname_any r (ts.tail.tail.tail) d _ K3.out.1).mono ?_
       intro e w4 h
       cases hn:nameR (ts.tail.tail.tail) with
       | none =>
         rw [hn] at h
         obtain ⟨rfl,m⟩:=h
         exact ⟨rfl,HQ.out _ _ (per (by simp only [rootsR,mutR,E1.out,E2.out,E3.out,hn,if_true,if_false,Bool.false_eq_true]) (K3.out.2.trans m))⟩
       | some p =>
         obtain ⟨q,t4⟩:=p
         rw [hn] at h
         obtain ⟨rfl,rr,mm⟩:=h
         have E4:=Hd hn
         have Nq:=Hd (G3.out.name hn)
         have G4:=Hd (G3.out.sub (name_sfx hn).1)
         have K4:=Hd (And.intro rr (K3.out.2.trans mm))
         clear rr mm hn
         go_wp2_with fail
         refine (skip_any r t4 d 2 mutB _ K4.out.1).mono ?_
         intro e w5 h
         cases hb:atB 2 mutB t4 with
         | true =>
           rw [hb] at h
           obtain ⟨rfl,rr,mm⟩:=h
           rw [skip_yes hb] at rr
           have G5:=Hd (G4.out.sub (at_sfx hb).1)
           have E5:=Hd hb
           have K5:=Hd (And.intro rr (K4.out.2.trans mm))
           clear rr mm hb
           go_wp2_with fail
           refine (need_any r (t4.tail) d 1 colB _ K5.out.1).mono ?_
           intro e w6 h
           cases hb:atB 1 colB (t4.tail) with
           | false =>
             rw [hb] at h
             simp only [Bool.false_eq_true,if_false] at h
             obtain ⟨rfl,m⟩:=h
             exact ⟨rfl,HQ.out _ _ (per (by simp only [rootsR,mutR,E1.out,E2.out,E3.out,E4.out,E5.out,hb,if_true,if_false,Bool.false_eq_true]) (K5.out.2.trans m))⟩
           | true =>
             rw [hb] at h
             simp only [if_true] at h
             obtain ⟨rfl,rr,mm⟩:=h
             have E6:=Hd hb
             have G6:=Hd (G5.out.sub (at_sfx hb).1)
             have K6:=Hd (And.intro rr (K5.out.2.trans mm))
             clear rr mm hb
             go_wp2_with fail
             refine (pname_any r (t4.tail.tail) d _ K6.out.1).mono ?_
             intro e w7 h
             cases hn:nameR (t4.tail.tail) with
             | none =>
               rw [hn] at h
               obtain ⟨rfl,m⟩:=h
               exact ⟨rfl,HQ.out _ _ (per (by simp only [rootsR,mutR,E1.out,E2.out,E3.out,E4.out,E5.out,E6.out,hn,if_true,if_false,Bool.false_eq_true]) (K6.out.2.trans m))⟩
             | some p =>
               obtain ⟨m,t7⟩:=p
               rw [hn] at h
               obtain ⟨rfl,rr,mm⟩:=h
               have E7:=Hd hn
               have Nm:=Hd (G6.out.name hn)
               have G7:=Hd (G6.out.sub (name_sfx hn).1)
               have K7:=Hd (And.intro rr (K6.out.2.trans mm))
               clear rr mm hn
               go_wp2_with fail
               refine (need_any r (t7) d 1 cmB _ K7.out.1).mono ?_
               intro e w8 h
               cases hb:atB 1 cmB (t7) with
               | false =>
                 rw [hb] at h
                 simp only [Bool.false_eq_true,if_false] at h
                 obtain ⟨rfl,m⟩:=h
                 exact ⟨rfl,HQ.out _ _ (per (by simp only [rootsR,mutR,E1.out,E2.out,E3.out,E4.out,E5.out,E6.out,E7.out,hb,if_true,if_false,Bool.false_eq_true]) (K7.out.2.trans m))⟩
               | true =>
                 rw [hb] at h
                 simp only [if_true] at h
                 obtain ⟨rfl,rr,mm⟩:=h
                 have E8:=Hd hb
                 have G8:=Hd (G7.out.sub (at_sfx hb).1)
                 have K8:=Hd (And.intro rr (K7.out.2.trans mm))
                 clear rr mm hb
                 go_wp2_with fail
                 exact HQ.out _ _ (post_ok (a:=(q,m)) (by simp only [rootsR,mutR,E1.out,E2.out,E3.out,E4.out,E5.out,E6.out,E7.out,E8.out,if_true,if_false,Bool.false_eq_true]) ⟨rfl,Nq.out,Nm.out⟩ K8.out.1 K8.out.2)
         | false =>
           rw [hb] at h
           obtain ⟨rfl,rr,mm⟩:=h
           rw [skip_no hb] at rr
           have G5:=G4
           have E5:=Hd hb
           have K5:=Hd (And.intro rr (K4.out.2.trans mm))
           clear rr mm hb
           go_wp2_with fail
           refine (need_any r (t4) d 1 cmB _ K5.out.1).mono ?_
           intro e w6 h
           cases hb:atB 1 cmB (t4) with
           | false =>
             rw [hb] at h
             simp only [Bool.false_eq_true,if_false] at h
             obtain ⟨rfl,m⟩:=h
             exact ⟨rfl,HQ.out _ _ (per (by simp only [rootsR,mutR,E1.out,E2.out,E3.out,E4.out,E5.out,hb,if_true,if_false,Bool.false_eq_true]) (K5.out.2.trans m))⟩
           | true =>
             rw [hb] at h
             simp only [if_true] at h
             obtain ⟨rfl,rr,mm⟩:=h
             have E6:=Hd hb
             have G6:=Hd (G5.out.sub (at_sfx hb).1)
             have K6:=Hd (And.intro rr (K5.out.2.trans mm))
             clear rr mm hb
             go_wp2_with fail
             exact HQ.out _ _ (post_ok (a:=(q,eB)) (by simp only [rootsR,mutR,E1.out,E2.out,E3.out,E4.out,E5.out,E6.out,if_true,if_false,Bool.false_eq_true]) ⟨rfl,Nq.out,(Nat.zero_le _)⟩ K6.out.1 K6.out.2)
end Go.Proofs.YtkacnnhdfkpenaaGreatDoor
