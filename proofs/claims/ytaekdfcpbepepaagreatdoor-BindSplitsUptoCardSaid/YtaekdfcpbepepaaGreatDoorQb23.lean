/- The walks of value.Same: slices.EqualFunc over values. -/
import Derived.Test.YtaekdfcpbepepaaGreatDoorQb17
set_option maxRecDepth 100000
set_option maxHeartbeats 8000000
namespace Go.Proofs.YtaekdfcpbepepaaGreatDoor
open Go.RowKit
theorem valloc_same (w:World) (o:Obj):Below w.heap.size w (w.alloc o):=(Below.refl _ _).alloc (Nat.le_refl _) o
theorem vtwo_below {w w2 w3:World} (h:Below w.heap.size w w2) (h':Below w2.heap.size w2 w3):Below w.heap.size w w3:=h.trans (h'.mono h.size)
def Tells (f:FuncId) (args:Array Value) (w:World) (P:Prop):Prop:=Calls Tryz.prog f args w fun e w'=>(∃ b,e=.returned (.bool b)∧(b=true ↔ P))∧Below w.heap.size w w'
theorem Tells.yes {f:FuncId} {args:Array Value} {w:World} {P:Prop} (h:Tells f args w P) (hp:P):Calls Tryz.prog f args w fun e w'=>e=.returned (.bool true)∧Below w.heap.size w w':=by
 refine Calls.mono h ?_
 rintro e w' ⟨⟨b,rfl,hb⟩,hw⟩
 rw [hb.2 hp]
 exact ⟨rfl,hw⟩
theorem Tells.no {f:FuncId} {args:Array Value} {w:World} {P:Prop} (h:Tells f args w P) (hp : ¬ P):Calls Tryz.prog f args w fun e w'=>e=.returned (.bool false)∧Below w.heap.size w w':=by
 refine Calls.mono h ?_
 rintro e w' ⟨⟨b,rfl,hb⟩,hw⟩
 have:b=false:=by cases b;rfl;exact absurd (hb.1 rfl) hp
 rw [this]
 exact ⟨rfl,hw⟩
theorem tells_true {P:Prop} {w w':World} (hp:P) (hw:Below w.heap.size w w'):(∃ b,Ending.returned (.bool true)=.returned (.bool b)∧(b=true ↔ P))∧Below w.heap.size w w':=⟨⟨true,rfl,⟨fun _=>hp,fun _=>rfl⟩⟩,hw⟩
theorem tells_false {P:Prop} {w w':World} (hp : ¬ P) (hw:Below w.heap.size w w'):(∃ b,Ending.returned (.bool false)=.returned (.bool b)∧(b=true ↔ P))∧Below w.heap.size w w':=⟨⟨false,rfl,⟨fun e=>by simp at e,fun e=>absurd e hp⟩⟩,hw⟩
def SamC (u:VT):Prop:=∀ (v:VT) (c0 c1 c2 c3 c4 d0 d1 d2 d3 d4:Value) (w:World) (B:Nat),B≤w.heap.size→VAt w B u c0 c1 c2 c3 c4→VAt w B v d0 d1 d2 d3 d4→Tells 198 #[.agg #[c0,c1,c2,c3,c4],.agg #[d0,d1,d2,d3,d4]] w (u=v)
theorem enters_same:∀ args w,(callFunc 198 args).run Tryz.prog w=.ok (.enter 198 args) w:=Go.Proofs.enters_of Tryz.func198 (by kernel_rfl) rfl
theorem eqf_list (N:Nat) (H:∀ u,sizeV u≤N→SamC u) (l:VL) (hlN:sizeL l≤N) (l':VL) (A A':Option Addr) (c c':Nat) (w:World) (B:Nat) (hB:B≤w.heap.size) (hl:l.len≤9223372036854775807) (h1:LAt w B l A 0) (h2:LAt w B l' A' 0) :
   Tells 224 #[.slice A l.len c,.slice A' l'.len c',.func (.func 198) #[] #[]] w (l=l'):=by
 have HS:=Hd H
 have HB0:=Hd hB
 have H1:=Hd h1
 have H2:=Hd h2
 have he:=enters_same
 clear H hB h1 h2
 unfold Tells
 by_cases hlen:l.len=l'.len
 · rw [← hlen]
   have HLN:=Hd hlen
   clear hlen
   go_enter Tryz.func224,Tryz.ntmps224
   go_wp2_with fail
   go_loopg [17] l.len (fun g i wx=>∃ q:Nat,q+g=l.len∧i=.int .i64 q∧Below w.heap.size w wx∧Aside (AgreeL l l' q))
   case atStart=>exact ⟨0,by omega,rfl,Below.refl _ _,vaside (fun j hj=>absurd hj (Nat.not_lt_zero _))⟩
   case round =>
    obtain ⟨q,hq,rfl,hb,HA⟩:=hrel
    have HBB:=Hd hb
    have hwr:=hb.size
    clear hb
    cases gk with
    | zero =>
      obtain rfl:q=l.len:=by omega
      have hE:Hid (l=l'):=Hd (VL.ext HLN.out HA)
      clear HA
      go_wp2_with fail
      go_ret
      exact tells_true hE.out HBB.out
    | succ g =>
      have hqn:q < l.len:=by omega
      have hqn':(q:Int) < (l.len:Int):=by omega
      obtain ⟨x,hx⟩:=VL.get_lt hqn
      obtain ⟨y,hy⟩:=VL.get_lt (show q < l'.len by have:=HLN.out;omega)
      have hxs:=Nat.le_trans (sizeL_get hx) hlN
      obtain ⟨b,o,d0,d1,d2,d3,d4,rfl,hblt,hF,hV⟩:=LAt.at (LAt.below (HBB.out.mono HB0.out) _ _ _ H1.out) hx
      obtain ⟨b',o',f0,f1,f2,f3,f4,rfl,hblt',hF',hV'⟩:=LAt.at (LAt.below (HBB.out.mono HB0.out) _ _ _ H2.out) hy
      rw [Nat.zero_add] at hF hF'
      have hBr:=Nat.le_trans HB0.out hwr
      have C:=fun (wx:World) (hx:Below wr.heap.size wr wx)=>Hd (HS.out x hxs y d0 d1 d2 d3 d4 f0 f1 f2 f3 f4 wx B (Nat.le_trans hBr hx.size) (VAt.below (hx.mono hBr) _ _ _ _ _ _ hV) (VAt.below (hx.mono hBr) _ _ _ _ _ _ hV'))
      have hag:=Hd (fun (e:x=y)=>AgreeL.next HA hx (by rw [e];exact hy))
      have hdf:=Hd (fun (ne : ¬ x=y) (e:l=l')=>ne (by rw [e,hy] at hx;exact (Option.some.inj hx).symm))
      obtain ⟨xk,xn,xs,xl,xm⟩:=x
      obtain ⟨yk,yn,ys,yl,ym⟩:=y
      unfold VAt at hV hV'
      obtain ⟨rfl,rfl,rfl,_,⟨A3,c3',rfl,_,_⟩,A4,c4',rfl,_,_⟩:=hV
      obtain ⟨rfl,rfl,rfl,_,⟨A5,c5',rfl,_,_⟩,A6,c6',rfl,_,_⟩:=hV'
      have hbw:b < wr.heap.size:=Nat.lt_of_lt_of_le hblt hBr
      have hbw':b' < wr.heap.size:=Nat.lt_of_lt_of_le hblt' hBr
      have hn1:=valloc_same wr (.cells #[.int .i64 xk,.int .i64 xn,.string xs,.slice A3 xl.len c3',.slice A4 xm.len c4'] 58)
      obtain ⟨p0,p1,p2,p3,p4⟩:=hF'.below hn1 hbw'
      obtain ⟨g0,g1,g2,g3,g4⟩:=hF
      have hn2:=Hd (vtwo_below hn1 (valloc_same (wr.alloc (.cells #[.int .i64 xk,.int .i64 xn,.string xs,.slice A3 xl.len c3',.slice A4 xm.len c4'] 58)) (.cells #[.int .i64 yk,.int .i64 yn,.string ys,.slice A5 yl.len c5',.slice A6 ym.len c6'] 58)))
      clear hF' hn1 hx hy HA hxs
      by_cases hxy:(VT.mk xk xn xs xl xm)=VT.mk yk yn ys yl ym
      · have hA2:=Hd (hag.out hxy)
        have HC:=fun wx hx=>Hd ((C wx hx).out.yes hxy)
        clear C hdf hag hxy
        go_wp2_with fail
        refine (HC _ hn2.out).out.mono ?_
        rintro e w2 ⟨rfl,hb2⟩
        have HB2:=Hd (HBB.out.trans ((vtwo_below hn2.out hb2).mono hwr))
        clear hb2 HC g0 g1 g2 g3 g4 p0 p1 p2 p3 p4
        go_wp2_with fail
        go_roundg g
        case measure=>omega
        case rel=>exact ⟨q+1,by omega,by go_num,HB2.out,vaside hA2.out⟩
      · have hA2:=Hd (hdf.out hxy)
        have HC:=fun wx hx=>Hd ((C wx hx).out.no hxy)
        clear C hdf hag hxy
        go_wp2_with fail
        refine (HC _ hn2.out).out.mono ?_
        rintro e w2 ⟨rfl,hb2⟩
        have HB2:=Hd (HBB.out.trans ((vtwo_below hn2.out hb2).mono hwr))
        clear hb2 HC g0 g1 g2 g3 g4 p0 p1 p2 p3 p4
        go_wp2_with fail
        go_ret
        exact tells_false hA2.out HB2.out
 · have e1:((l.len:Int) != (l'.len:Int))=true:=by simp;omega
   have hE:Hid (¬ l=l'):=Hd (fun e=>hlen (by rw [e]))
   go_enter Tryz.func224,Tryz.ntmps224
   go_wp2_with fail
   go_ret
   exact tells_false hE.out (Below.refl _ _)
theorem enters_mem:∀ args w,(callFunc 226 args).run Tryz.prog w=.ok (.enter 226 args) w:=Go.Proofs.enters_of Tryz.func226 (by kernel_rfl) rfl
theorem ba_eq {a b:ByteArray} : a.toList=b.toList ↔ a=b:=⟨fun h=>by rw [ByteArray.toList_eq,ByteArray.toList_eq] at h;exact ByteArray.ext (Array.toList_inj.1 h),fun h=>by rw [h]⟩
theorem sam_mem (N:Nat) (H:∀ u,sizeV u≤N→SamC u) (u:VT) (hu:sizeV u≤N) (nm nm':ByteArray) (v:VT) (c0 c1 c2 c3 c4 d0 d1 d2 d3 d4:Value) (w:World) (B:Nat) (hB:B≤w.heap.size) (h1:VAt w B u c0 c1 c2 c3 c4) (h2:VAt w B v d0 d1 d2 d3 d4) :
   Tells 226 #[.agg #[.string nm,c0,c1,c2,c3,c4],.agg #[.string nm',d0,d1,d2,d3,d4]] w (nm=nm'∧u=v):=by
 have HS:=Hd (H u hu v c0 c1 c2 c3 c4 d0 d1 d2 d3 d4)
 have H1:=Hd h1
 have H2:=Hd h2
 have hn1:=valloc_same w (.cells #[.string nm,c0,c1,c2,c3,c4] 97)
 have HN:=Hd (vtwo_below hn1 (valloc_same (w.alloc (.cells #[.string nm,c0,c1,c2,c3,c4] 97)) (.cells #[.string nm',d0,d1,d2,d3,d4] 97)))
 have HB0:=Hd hB
 obtain ⟨xk,xn,xs,xl,xm⟩:=u
 obtain ⟨yk,yn,ys,yl,ym⟩:=v
 unfold VAt at h1 h2
 obtain ⟨rfl,rfl,rfl,_,⟨A3,c3',rfl,_,_⟩,A4,c4',rfl,_,_⟩:=h1
 obtain ⟨rfl,rfl,rfl,_,⟨A5,c5',rfl,_,_⟩,A6,c6',rfl,_,_⟩:=h2
 clear H hu hB hn1
 unfold Tells
 by_cases hnn:nm=nm'
 · subst hnn
   have C:=fun (wx:World) (hx:Below w.heap.size w wx)=>Hd (HS.out wx B (Nat.le_trans HB0.out hx.size) (VAt.below (hx.mono HB0.out) _ _ _ _ _ _ H1.out) (VAt.below (hx.mono HB0.out) _ _ _ _ _ _ H2.out))
   by_cases hxy:(VT.mk xk xn xs xl xm)=VT.mk yk yn ys yl ym
   · have HC:=fun wx hx=>Hd ((C wx hx).out.yes hxy)
     have hP:=Hd (And.intro (rfl:nm=nm) hxy)
     clear C hxy
     go_enter Tryz.func226,Tryz.ntmps226
     go_wp2_with fail
     refine (HC _ HN.out).out.mono ?_
     rintro e w2 ⟨rfl,hb2⟩
     have HB2:=Hd (vtwo_below HN.out hb2)
     clear hb2 HC
     go_wp2_with fail
     go_ret
     exact tells_true hP.out HB2.out
   · have HC:=fun wx hx=>Hd ((C wx hx).out.no hxy)
     have hP:=Hd (fun (h:nm=nm∧VT.mk xk xn xs xl xm=VT.mk yk yn ys yl ym)=>hxy h.2)
     clear C hxy
     go_enter Tryz.func226,Tryz.ntmps226
     go_wp2_with fail
     refine (HC _ HN.out).out.mono ?_
     rintro e w2 ⟨rfl,hb2⟩
     have HB2:=Hd (vtwo_below HN.out hb2)
     clear hb2 HC
     go_wp2_with fail
     go_ret
     exact tells_false hP.out HB2.out
 · have e1:(nm.toList == nm'.toList)=false:=by
     have : ¬ nm.toList=nm'.toList:=fun h=>hnn (ba_eq.1 h)
     simpa using this
   have hP:=Hd (fun (h:nm=nm'∧VT.mk xk xn xs xl xm=VT.mk yk yn ys yl ym)=>hnn h.1)
   clear hnn
   go_enter Tryz.func226,Tryz.ntmps226
   go_wp2_with fail
   go_ret
   exact tells_false hP.out HN.out
theorem eqf_mem (N:Nat) (H:∀ u,sizeV u≤N→SamC u) (l:VM) (hlN:sizeM l≤N) (l':VM) (A A':Option Addr) (c c':Nat) (w:World) (B:Nat) (hB:B≤w.heap.size) (hl:l.len≤9223372036854775807) (h1:MAt w B l A 0) (h2:MAt w B l' A' 0) :
   Tells 225 #[.slice A l.len c,.slice A' l'.len c',.func (.func 226) #[] #[]] w (l=l'):=by
 have HS:=Hd H
 have HB0:=Hd hB
 have H1:=Hd h1
 have H2:=Hd h2
 have he:=enters_mem
 clear H hB h1 h2
 unfold Tells
 by_cases hlen:l.len=l'.len
 · rw [← hlen]
   have HLN:=Hd hlen
   clear hlen
   go_enter Tryz.func225,Tryz.ntmps225
   go_wp2_with fail
   go_loopg [17] l.len (fun g i wx=>∃ q:Nat,q+g=l.len∧i=.int .i64 q∧Below w.heap.size w wx∧Aside (AgreeM l l' q))
   case atStart=>exact ⟨0,by omega,rfl,Below.refl _ _,vaside (fun j hj=>absurd hj (Nat.not_lt_zero _))⟩
   case round =>
    obtain ⟨q,hq,rfl,hb,HA⟩:=hrel
    have HBB:=Hd hb
    have hwr:=hb.size
    clear hb
    cases gk with
    | zero =>
      obtain rfl:q=l.len:=by omega
      have hE:Hid (l=l'):=Hd (VM.ext HLN.out HA)
      clear HA
      go_wp2_with fail
      go_ret
      exact tells_true hE.out HBB.out
    | succ g =>
      have hqn:q < l.len:=by omega
      have hqn':(q:Int) < (l.len:Int):=by omega
      obtain ⟨⟨nm,x⟩,hx⟩:=VM.get_lt hqn
      obtain ⟨⟨nm',y⟩,hy⟩:=VM.get_lt (show q < l'.len by have:=HLN.out;omega)
      have hxs:=Nat.le_trans (name_size hx).2 hlN
      obtain ⟨b,o,d0,d1,d2,d3,d4,rfl,hblt,hnm,_,hF,hV⟩:=MAt.at (MAt.below (HBB.out.mono HB0.out) _ _ _ H1.out) hx
      obtain ⟨b',o',f0,f1,f2,f3,f4,rfl,hblt',hnm',_,hF',hV'⟩:=MAt.at (MAt.below (HBB.out.mono HB0.out) _ _ _ H2.out) hy
      rw [Nat.zero_add] at hF hF' hnm hnm'
      have hBr:=Nat.le_trans HB0.out hwr
      have C:=fun (wx:World) (hx:Below wr.heap.size wr wx)=>Hd (sam_mem N HS.out x hxs nm nm' y d0 d1 d2 d3 d4 f0 f1 f2 f3 f4 wx B (Nat.le_trans hBr hx.size) (VAt.below (hx.mono hBr) _ _ _ _ _ _ hV) (VAt.below (hx.mono hBr) _ _ _ _ _ _ hV'))
      have hag:=Hd (fun (e:nm=nm'∧x=y)=>AgreeM.next HA hx (by rw [e.1,e.2];exact hy))
      have hdf:=Hd (fun (ne : ¬ (nm=nm'∧x=y)) (e:l=l')=>ne (by rw [e,hy] at hx;have h:=Option.some.inj hx;exact ⟨(congrArg Prod.fst h).symm,(congrArg Prod.snd h).symm⟩))
      obtain ⟨xk,xn,xs,xl,xm⟩:=x
      obtain ⟨yk,yn,ys,yl,ym⟩:=y
      unfold VAt at hV hV'
      obtain ⟨rfl,rfl,rfl,_,⟨A3,c3',rfl,_,_⟩,A4,c4',rfl,_,_⟩:=hV
      obtain ⟨rfl,rfl,rfl,_,⟨A5,c5',rfl,_,_⟩,A6,c6',rfl,_,_⟩:=hV'
      have hbw:b < wr.heap.size:=Nat.lt_of_lt_of_le hblt hBr
      have hbw':b' < wr.heap.size:=Nat.lt_of_lt_of_le hblt' hBr
      have hn1:=valloc_same wr (.cells #[.string nm,.int .i64 xk,.int .i64 xn,.string xs,.slice A3 xl.len c3',.slice A4 xm.len c4'] 97)
      obtain ⟨p0,p1,p2,p3,p4⟩:=hF'.below hn1 hbw'
      have pn:=(hn1.cell (p:=⟨b',_,none⟩) hbw').trans hnm'
      obtain ⟨g0,g1,g2,g3,g4⟩:=hF
      have hn2:=Hd (vtwo_below hn1 (valloc_same (wr.alloc (.cells #[.string nm,.int .i64 xk,.int .i64 xn,.string xs,.slice A3 xl.len c3',.slice A4 xm.len c4'] 97)) (.cells #[.string nm',.int .i64 yk,.int .i64 yn,.string ys,.slice A5 yl.len c5',.slice A6 ym.len c6'] 97)))
      clear hF' hn1 hx hy HA hxs hnm'
      by_cases hxy:nm=nm'∧(VT.mk xk xn xs xl xm)=VT.mk yk yn ys yl ym
      · have hA2:=Hd (hag.out hxy)
        have HC:=fun wx hx=>Hd ((C wx hx).out.yes hxy)
        clear C hdf hag hxy
        go_wp2_with fail
        refine (HC _ hn2.out).out.mono ?_
        rintro e w2 ⟨rfl,hb2⟩
        have HB2:=Hd (HBB.out.trans ((vtwo_below hn2.out hb2).mono hwr))
        clear hb2 HC g0 g1 g2 g3 g4 p0 p1 p2 p3 p4 pn hnm
        go_wp2_with fail
        go_roundg g
        case measure=>omega
        case rel=>exact ⟨q+1,by omega,by go_num,HB2.out,vaside hA2.out⟩
      · have hA2:=Hd (hdf.out hxy)
        have HC:=fun wx hx=>Hd ((C wx hx).out.no hxy)
        clear C hdf hag hxy
        go_wp2_with fail
        refine (HC _ hn2.out).out.mono ?_
        rintro e w2 ⟨rfl,hb2⟩
        have HB2:=Hd (HBB.out.trans ((vtwo_below hn2.out hb2).mono hwr))
        clear hb2 HC g0 g1 g2 g3 g4 p0 p1 p2 p3 p4 pn hnm
        go_wp2_with fail
        go_ret
        exact tells_false hA2.out HB2.out
 · have e1:((l.len:Int) != (l'.len:Int))=true:=by simp;omega
   have hE:Hid (¬ l=l'):=Hd (fun e=>hlen (by rw [e]))
   go_enter Tryz.func225,Tryz.ntmps225
   go_wp2_with fail
   go_ret
   exact tells_false hE.out (Below.refl _ _)
theorem sam_step (N:Nat) (H:∀ u,sizeV u≤N→SamC u):∀ u,sizeV u≤N+1→SamC u:=by
 intro u hu v c0 c1 c2 c3 c4 d0 d1 d2 d3 d4 w B hB h1 h2
 obtain ⟨xk,xn,xs,xl,xm⟩:=u
 obtain ⟨yk,yn,ys,yl,ym⟩:=v
 rw [sizeV] at hu
 unfold VAt at h1 h2
 obtain ⟨rfl,rfl,rfl,_,⟨A3,c3',rfl,g3,l3⟩,A4,c4',rfl,g4,l4⟩:=h1
 obtain ⟨rfl,rfl,rfl,_,⟨A5,c5',rfl,g5,l5⟩,A6,c6',rfl,g6,l6⟩:=h2
 have hn1:=valloc_same w (.cells #[.int .i64 xk,.int .i64 xn,.string xs,.slice A3 xl.len c3',.slice A4 xm.len c4'] 58)
 have hsw:Hid ((w.alloc (.cells #[.int .i64 xk,.int .i64 xn,.string xs,.slice A3 xl.len c3',.slice A4 xm.len c4'] 58)).heap.size=w.heap.size+1):=Hd (by simp)
 have HN:=Hd (vtwo_below hn1 (valloc_same (w.alloc (.cells #[.int .i64 xk,.int .i64 xn,.string xs,.slice A3 xl.len c3',.slice A4 xm.len c4'] 58)) (.cells #[.int .i64 yk,.int .i64 yn,.string ys,.slice A5 yl.len c5',.slice A6 ym.len c6'] 58)))
 have CL:=fun (wx:World) (hx:Below w.heap.size w wx)=>Hd (eqf_list N H xl (by omega) yl A3 A5 c3' c5' wx B (Nat.le_trans hB hx.size) g3 (LAt.below (hx.mono hB) _ _ _ l3) (LAt.below (hx.mono hB) _ _ _ l5))
 have CM:=fun (wx:World) (hx:Below w.heap.size w wx)=>Hd (eqf_mem N H xm (by omega) ym A4 A6 c4' c6' wx B (Nat.le_trans hB hx.size) g4 (MAt.below (hx.mono hB) _ _ _ l4) (MAt.below (hx.mono hB) _ _ _ l6))
 have hF1:=Hd (five_at_new w (.int .i64 xk) (.int .i64 xn) (.string xs) (.slice A3 xl.len c3') (.slice A4 xm.len c4') 58 rfl)
 have hF2:=Hd (five_at_new (w.alloc (.cells #[.int .i64 xk,.int .i64 xn,.string xs,.slice A3 xl.len c3',.slice A4 xm.len c4'] 58)) (.int .i64 yk) (.int .i64 yn) (.string ys) (.slice A5 yl.len c5') (.slice A6 ym.len c6') 58 (n:=w.heap.size+1) (by simp))
 have hF1':=Hd (hF1.out.below (valloc_same _ (.cells #[.int .i64 yk,.int .i64 yn,.string ys,.slice A5 yl.len c5',.slice A6 ym.len c6'] 58)) (by rw [hsw.out];omega))
 have hsw2:Hid (((w.alloc (.cells #[.int .i64 xk,.int .i64 xn,.string xs,.slice A3 xl.len c3',.slice A4 xm.len c4'] 58)).alloc (.cells #[.int .i64 yk,.int .i64 yn,.string ys,.slice A5 yl.len c5',.slice A6 ym.len c6'] 58)).heap.size=w.heap.size+2):=Hd (by simp)
 clear H hu hB hn1 l3 l4 l5 l6
 unfold Tells
 by_cases hk:xk=yk
 · by_cases hn:xn=yn
   · by_cases hs:xs=ys
     · subst hk hn hs
       by_cases hl:xl=yl
       · have HC:=fun wx hx=>Hd ((CL wx hx).out.yes hl)
         by_cases hm:xm=ym
         · have HD:=fun wx hx=>Hd ((CM wx hx).out.yes hm)
           have hP:Hid (VT.mk xk xn xs xl xm=VT.mk xk xn xs yl ym):=Hd (by rw [hl,hm])
           clear CL CM hl hm
           go_enter Tryz.func198,Tryz.ntmps198
           go_wp2_with fail
           refine (HC _ HN.out).out.mono ?_
           rintro e w2 ⟨rfl,hb2⟩
           obtain ⟨p0,p1,p2,p3,p4⟩:=hF1'.out.below hb2 (by rw [hsw2.out];omega)
           obtain ⟨q0,q1,q2,q3,q4⟩:=hF2.out.below hb2 (by rw [hsw2.out];omega)
           have hb3:=Hd (vtwo_below HN.out hb2)
           clear hb2 HC
           go_wp2_with fail
           refine (HD _ hb3.out).out.mono ?_
           rintro e w3 ⟨rfl,hb4⟩
           have HB4:=Hd (vtwo_below hb3.out hb4)
           clear hb4 HD
           go_wp2_with fail
           go_ret
           exact tells_true hP.out HB4.out
         · have HD:=fun wx hx=>Hd ((CM wx hx).out.no hm)
           have hP:Hid (¬ VT.mk xk xn xs xl xm=VT.mk xk xn xs yl ym):=Hd (fun e=>hm (by injection e))
           clear CL CM hl hm
           go_enter Tryz.func198,Tryz.ntmps198
           go_wp2_with fail
           refine (HC _ HN.out).out.mono ?_
           rintro e w2 ⟨rfl,hb2⟩
           obtain ⟨p0,p1,p2,p3,p4⟩:=hF1'.out.below hb2 (by rw [hsw2.out];omega)
           obtain ⟨q0,q1,q2,q3,q4⟩:=hF2.out.below hb2 (by rw [hsw2.out];omega)
           have hb3:=Hd (vtwo_below HN.out hb2)
           clear hb2 HC
           go_wp2_with fail
           refine (HD _ hb3.out).out.mono ?_
           rintro e w3 ⟨rfl,hb4⟩
           have HB4:=Hd (vtwo_below hb3.out hb4)
           clear hb4 HD
           go_wp2_with fail
           go_ret
           exact tells_false hP.out HB4.out
       · have HC:=fun wx hx=>Hd ((CL wx hx).out.no hl)
         have hP:Hid (¬ VT.mk xk xn xs xl xm=VT.mk xk xn xs yl ym):=Hd (fun e=>hl (by injection e))
         clear CL CM hl
         go_enter Tryz.func198,Tryz.ntmps198
         go_wp2_with fail
         refine (HC _ HN.out).out.mono ?_
         rintro e w2 ⟨rfl,hb2⟩
         have hb3:=Hd (vtwo_below HN.out hb2)
         clear hb2 HC
         go_wp2_with fail
         go_ret
         exact tells_false hP.out hb3.out
     · subst hk hn
       have e1:(xs.toList == ys.toList)=false:=by
         have : ¬ xs.toList=ys.toList:=fun h=>hs (ba_eq.1 h)
         simpa using this
       have hP:Hid (¬ VT.mk xk xn xs xl xm=VT.mk xk xn ys yl ym):=Hd (fun e=>hs (by injection e))
       clear CL CM hs
       go_enter Tryz.func198,Tryz.ntmps198
       go_wp2_with fail
       go_ret
       exact tells_false hP.out HN.out
   · subst hk
     have e1:(xn == yn)=false:=by simpa using hn
     have hP:Hid (¬ VT.mk xk xn xs xl xm=VT.mk xk yn ys yl ym):=Hd (fun e=>hn (by injection e))
     clear CL CM hn
     go_enter Tryz.func198,Tryz.ntmps198
     go_wp2_with fail
     go_ret
     exact tells_false hP.out HN.out
 · have e1:(xk == yk)=false:=by simpa using hk
   have hP:Hid (¬ VT.mk xk xn xs xl xm=VT.mk yk yn ys yl ym):=Hd (fun e=>hk (by injection e))
   clear CL CM hk
   go_enter Tryz.func198,Tryz.ntmps198
   go_wp2_with fail
   go_ret
   exact tells_false hP.out HN.out
theorem sam_all:∀ N u,sizeV u≤N→SamC u
 | 0,u,h=>by have:=sizeV_pos u;omega
 | N+1,u,h=>sam_step N (sam_all N) u h
theorem sam_any (u:VT):SamC u:=sam_all _ u (Nat.le_refl _)
mutual
theorem VAt.more {w:World} {B B':Nat} (hb:B≤B'):∀ (v:VT) (c0 c1 c2 c3 c4:Value),VAt w B v c0 c1 c2 c3 c4→VAt w B' v c0 c1 c2 c3 c4
 | .mk k n s l m,c0,c1,c2,c3,c4,h=>by
   unfold VAt at h ⊢
   obtain ⟨h0,h1,h2,hs,⟨A,c,h3,g3,h4⟩,A',c',h5,g5,h6⟩:=h
   exact ⟨h0,h1,h2,hs,⟨A,c,h3,g3,LAt.more hb l A 0 h4⟩,A',c',h5,g5,MAt.more hb m A' 0 h6⟩
theorem LAt.more {w:World} {B B':Nat} (hb:B≤B'):∀ (l:VL) (A:Option Addr) (j:Nat),LAt w B l A j→LAt w B' l A j
 | .nil,_,_,_=>by unfold LAt;trivial
 | .cons v t,A,j,h=>by
   unfold LAt at h ⊢
   obtain ⟨⟨b,o,c0,c1,c2,c3,c4,hA,hlt,hf,hv⟩,ht⟩:=h
   exact ⟨⟨b,o,c0,c1,c2,c3,c4,hA,Nat.lt_of_lt_of_le hlt hb,hf,VAt.more hb v _ _ _ _ _ hv⟩,LAt.more hb t A (j+1) ht⟩
theorem MAt.more {w:World} {B B':Nat} (hb:B≤B'):∀ (l:VM) (A:Option Addr) (j:Nat),MAt w B l A j→MAt w B' l A j
 | .nil,_,_,_=>by unfold MAt;trivial
 | .cons nm v t,A,j,h=>by
   unfold MAt at h ⊢
   obtain ⟨⟨b,o,c0,c1,c2,c3,c4,hA,hlt,hn,hz,hf,hv⟩,ht⟩:=h
   exact ⟨⟨b,o,c0,c1,c2,c3,c4,hA,Nat.lt_of_lt_of_le hlt hb,hn,hz,hf,VAt.more hb v _ _ _ _ _ hv⟩,MAt.more hb t A (j+1) ht⟩
end
open Classical in
noncomputable def samB (u v:VT):Bool:=decide (u=v)
theorem samB_iff {u v:VT} {b:Bool} (h:b=true ↔ u=v):b=samB u v:=by
 unfold samB
 by_cases e:u=v
 · rw [h.2 e];simp [e]
 · have:b=false:=by cases b;rfl;exact absurd (h.1 rfl) e
   rw [this];simp [e]
def LiveV (w:World) (x:Value) (v:VT):Prop:=∃ c0 c1 c2 c3 c4,x=.agg #[c0,c1,c2,c3,c4]∧VAt w w.heap.size v c0 c1 c2 c3 c4
theorem LiveV.below {w w':World} {x:Value} {v:VT} (h:LiveV w x v) (hb:Below w.heap.size w w'):LiveV w' x v:=by
 obtain ⟨c0,c1,c2,c3,c4,e,hv⟩:=h
 exact ⟨c0,c1,c2,c3,c4,e,VAt.more hb.size _ _ _ _ _ _ (VAt.below hb _ _ _ _ _ _ hv)⟩
theorem live_same {w:World} {x y:Value} {u v:VT} (hx:LiveV w x u) (hy:LiveV w y v):Calls Tryz.prog 198 #[x,y] w fun e w'=>e=.returned (.bool (samB u v))∧Below w.heap.size w w':=by
 obtain ⟨c0,c1,c2,c3,c4,rfl,hu⟩:=hx
 obtain ⟨d0,d1,d2,d3,d4,rfl,hv⟩:=hy
 refine Calls.mono (sam_any u v _ _ _ _ _ _ _ _ _ _ w w.heap.size (Nat.le_refl _) hu hv) ?_
 rintro e w' ⟨⟨b,rfl,hb⟩,hw⟩
 rw [samB_iff hb]
 exact ⟨rfl,hw⟩
end Go.Proofs.YtaekdfcpbepepaaGreatDoor
