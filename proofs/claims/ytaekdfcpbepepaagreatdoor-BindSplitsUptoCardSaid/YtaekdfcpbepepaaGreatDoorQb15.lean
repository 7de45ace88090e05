/- The walk of value.within. -/
import Derived.Test.YtaekdfcpbepepaaGreatDoorQb14
set_option maxRecDepth 100000
set_option maxHeartbeats 4000000
namespace Go.Proofs.YtaekdfcpbepepaaGreatDoor
open Go.RowKit
def Filled (w:World) (B:Nat) (l:VL) (q:Nat) (xs:List Value):Prop:=∀ (j:Nat) v,j < q→l.get j=some v→∃ c0 c1 c2 c3 c4,VAt w B v c0 c1 c2 c3 c4∧xs[j*5]? = some c0∧xs[j*5+1]? = some c1∧xs[j*5+2]? = some c2∧xs[j*5+3]? = some c3∧xs[j*5+4]? = some c4
def RB (base n G B:Nat) (l:VL) (w:World) (q:Nat):Prop:=∃ xs,w.ownsRow base 58 5 (.slice (some ⟨G,0,none⟩) n n) n xs∧Filled w B l q xs
theorem kids_list (n:Int) (s:ByteArray) (l:VL) (m:VM):VT.kids (.mk 6 n s l m)=l:=by rw [VT.kids,if_pos rfl]
theorem kids_map (n:Int) (s:ByteArray) (l:VL) (m:VM):VT.kids (.mk 7 n s l m)=m.vals:=by rw [VT.kids,if_neg (by omega),if_pos rfl]
theorem kids_none (k n:Int) (s:ByteArray) (l:VL) (m:VM) (h6 : ¬ k=6) (h7 : ¬ k=7):VT.kids (.mk k n s l m)=.nil:=by rw [VT.kids,if_neg h6,if_neg h7]
def WithinC (v:VT):Prop:=∀ (c0 c1 c2 c3 c4:Value) (w:World) (B:Nat),B≤w.heap.size→VAt w B v c0 c1 c2 c3 c4 →
 Calls Tryz.prog 201 #[.agg #[c0,c1,c2,c3,c4]] w fun e w'=>∃ A c,e=.returned (.slice A v.kids.len c)∧RowV w' B v.kids A∧Below w.heap.size w w'
theorem within_said {w' w:World} {B:Nat} {v:VT} {l:VL} {A:Option Addr} {c:Nat} (hk:v.kids=l) (hr:RowV w' B l A) (hb:Below w.heap.size w w'):∃ A' c',Ending.returned (.slice A l.len c)=.returned (.slice A' v.kids.len c')∧RowV w' B v.kids A'∧Below w.heap.size w w':=
 ⟨A,c,by rw [hk],by rw [hk];exact hr,hb⟩
theorem not_frozen {w:World} {base:Nat} {e:TypeId} {sz n cap g:Nat} {xs:List Value} (h:w.ownsRow base e sz (.slice (some ⟨g,0,none⟩) n cap) n xs) (i:Nat):w.frozen? ⟨g,i,none⟩=false:=by
 rcases h.2 with ⟨h',_⟩|⟨g',cap',cur,h',_,hg,_⟩
 · simp at h'
 · injection h' with e1 e2 e3
   injection e1 with e1
   injection e1 with e1
   subst e1
   simp [World.frozen?,hg]
theorem VL.lt_get:∀ {l:VL} {j:Nat} {v:VT},l.get j=some v→j < l.len
 | .nil,_,_,h=>by simp [VL.get] at h
 | .cons _ _,0,_,_=>by simp [VL.len]
 | .cons _ t,j+1,_,h=>by have:=VL.lt_get (l:=t) h;simp [VL.len];omega
theorem stored_below {w wr:World} {g i:Nat} {d0 d1 d2 d3 d4:Value} {o:Obj} (h:Below w.heap.size w wr) (hg:w.heap.size≤g) :
  Below w.heap.size w ((((((wr.setCell ⟨g,i,none⟩ d0).setCell ⟨g,i+1,none⟩ d1).setCell ⟨g,i+2,none⟩ d2).setCell ⟨g,i+3,none⟩ d3).setCell ⟨g,i+4,none⟩ d4).alloc o):=by
 have h0:=((((h.setCell (p:=⟨g,i,none⟩) hg d0).setCell (p:=⟨g,i+1,none⟩) hg d1).setCell (p:=⟨g,i+2,none⟩) hg d2).setCell (p:=⟨g,i+3,none⟩) hg d3).setCell (p:=⟨g,i+4,none⟩) hg d4
 exact h0.alloc h0.size o
theorem set_other {xs:List Value} {i j:Nat} {u z:Value} (h:i ≠ j) (hx:xs[j]? = some z):(xs.set i u)[j]? = some z:=by rw [List.getElem?_set_ne h];exact hx
theorem set_here {xs:List Value} {i:Nat} {u:Value} (h:i < xs.length):(xs.set i u)[i]? = some u:=by rw [List.getElem?_set_self h]
theorem stored_filled {w wr:World} {base n g B q:Nat} {l:VL} {v:VT} {xs:List Value} {d0 d1 d2 d3 d4:Value} {o:Obj} (hB:B≤w.heap.size) (hb:Below w.heap.size w wr) (hg:w.heap.size≤g) (hown:wr.ownsRow base 58 5 (.slice (some ⟨g,0,none⟩) n n) n xs) (hf:Filled wr B l q xs) (hq:q < n) (hv:l.get q=some v) (hV:VAt wr B v d0 d1 d2 d3 d4) :
   RB base n g B l ((((((wr.setCell ⟨g,q*5,none⟩ d0).setCell ⟨g,q*5+1,none⟩ d1).setCell ⟨g,q*5+2,none⟩ d2).setCell ⟨g,q*5+3,none⟩ d3).setCell ⟨g,q*5+4,none⟩ d4).alloc o) (q+1):=by
 have s0:=(hown.stored (q*5) d0).1
 have s1:=(s0.stored (q*5+1) d1).1
 have s2:=(s1.stored (q*5+2) d2).1
 have s3:=(s2.stored (q*5+3) d3).1
 have s4:=(s3.stored (q*5+4) d4).1
 have hbw:Below B wr ((((((wr.setCell ⟨g,q*5,none⟩ d0).setCell ⟨g,q*5+1,none⟩ d1).setCell ⟨g,q*5+2,none⟩ d2).setCell ⟨g,q*5+3,none⟩ d3).setCell ⟨g,q*5+4,none⟩ d4).alloc o):=by
   have hgB:B≤g:=Nat.le_trans hB hg
   have hBr:B≤wr.heap.size:=Nat.le_trans hB hb.size
   have h0:=(((((Below.refl B wr).setCell (p:=⟨g,q*5,none⟩) hgB d0).setCell (p:=⟨g,q*5+1,none⟩) hgB d1).setCell (p:=⟨g,q*5+2,none⟩) hgB d2).setCell (p:=⟨g,q*5+3,none⟩) hgB d3).setCell (p:=⟨g,q*5+4,none⟩) hgB d4
   exact h0.alloc (Nat.le_trans hBr h0.size) o
 have hl:=hown.1
 refine ⟨_,own_low s4 ((Below.refl _ _).alloc (Nat.le_refl _) o),fun j u hj hu=>?_⟩
 rcases Nat.lt_or_ge j q with hjq|hjq
 · obtain ⟨c0,c1,c2,c3,c4,hc,g0,g1,g2,g3,g4⟩:=hf j u hjq hu
   refine ⟨c0,c1,c2,c3,c4,VAt.below hbw _ _ _ _ _ _ hc,?_,?_,?_,?_,?_⟩
   all_goals
     refine set_other (by omega) (set_other (by omega) (set_other (by omega) (set_other (by omega) (set_other (by omega) ?_))))
     assumption
 · obtain rfl:j=q:=by omega
   rw [hv] at hu
   cases hu
   refine ⟨d0,d1,d2,d3,d4,VAt.below hbw _ _ _ _ _ _ hV,?_,?_,?_,?_,?_⟩
   · exact set_other (by omega) (set_other (by omega) (set_other (by omega) (set_other (by omega) (set_here (by omega)))))
   · exact set_other (by omega) (set_other (by omega) (set_other (by omega) (set_here (by simp;omega))))
   · exact set_other (by omega) (set_other (by omega) (set_here (by simp;omega)))
   · exact set_other (by omega) (set_here (by simp;omega))
   · exact set_here (by simp;omega)
theorem RB.row {base n G B:Nat} {l:VL} {w:World} (h:RB base n G B l w n) (hl:l.len=n):RowV w B l (some ⟨G,0,none⟩):=by
 obtain ⟨xs,hown,hf⟩:=h
 intro j v hj
 have hjn:j < n:=by rw [← hl];exact VL.lt_get hj
 obtain ⟨c0,c1,c2,c3,c4,hv,h0,h1,h2,h3,h4⟩:=hf j v hjn hj
 have hat:∀ i u,xs[i]? = some u→w.cell? ⟨G,i,none⟩=some u:=fun i u hu=>by
  have hil:=(List.getElem?_eq_some_iff.1 hu).1
  rw [hown.1] at hil
  rw [World.ownsRow.cellAt hown i hil,hu]
 exact ⟨G,0,c0,c1,c2,c3,c4,rfl,(hown.lt _ rfl).2,⟨by rw [Nat.zero_add];exact hat _ _ h0,by rw [Nat.zero_add];exact hat _ _ h1,by rw [Nat.zero_add];exact hat _ _ h2,by rw [Nat.zero_add];exact hat _ _ h3,by rw [Nat.zero_add];exact hat _ _ h4⟩,hv⟩
theorem within_any (v:VT) (hz:sizeV v≤1100000):WithinC v:=by
 intro c0 c1 c2 c3 c4 w B hB hv
 obtain ⟨k,n,s,l,m⟩:=v
 have hml:m.len≤1100000:=by rw [sizeV] at hz;have:=lenM_le m;omega
 unfold VAt at hv
 obtain ⟨rfl,rfl,rfl,_,⟨A,c,rfl,hl,hL⟩,A',c',rfl,hm,hM⟩:=hv
 have hb0:Below w.heap.size w (w.alloc (.cells #[.int .i64 k,.int .i64 n,.string s,.slice A l.len c,.slice A' m.len c'] 58)):=(Below.refl _ _).alloc (Nat.le_refl _) _
 have HB:=Hd hb0
 have HB0:=Hd hB
 have HL:=Hd hL
 have HM:=Hd hM
 clear hL hM hB hb0 hz
 by_cases k6:k=6
 · subst k6
   go_enter Tryz.func201,Tryz.ntmps201
   go_wp2_with fail
   go_ret
   exact within_said (kids_list _ _ _ _) (RowV.of_list (Nat.le_trans HB0.out HB.out.size) (LAt.below (HB.out.mono HB0.out) _ _ _ HL.out)) HB.out
 · by_cases k7:k=7
   · subst k7
     obtain ⟨i0,hi,hz0,hz1,hz2⟩:=info_parts info_val
     clear k6
     go_enter Tryz.func201,Tryz.ntmps201
     have hbox4:Hid ((w.alloc (.cells #[.int .i64 7,.int .i64 n,.string s,.slice A l.len c,.slice A' m.len c'] 58)).cell? ⟨w.heap.size,4,none⟩=some (.slice A' m.len c')):=Hd (by rw [World.cell?_alloc_at _ _ _ _ rfl];rfl)
     go_wp2_with (at_make;refine wpList_make_full _ rfl _ _ 55 rfl w.heap.size 58 i0 _ 5 Tryz.underlying55 hi hz0 hz1 .i64 .i64 _ _ m.len rfl rfl (by first|rfl|omega) (by first|rfl|omega) (by rw [hz2];omega) (by unfold maxLen;omega) (by simp) ?_;intro w2 hown hgr;have hb2:=(Below.refl _ _).grown hgr (Nat.le_refl _) (fun k h=>by cases h);have hc4:w2.cell? ⟨w.heap.size,4,none⟩=some (.slice A' m.len c'):=(hb2.cell (p:=⟨w.heap.size,4,none⟩) (by simp)).trans hbox4.out;have HB2:=Hd (HB.out.trans (hb2.mono HB.out.size));have HO:=Hd hown;clear hown hgr hb2)
     have hsz:(w.alloc (.cells #[.int .i64 7,.int .i64 n,.string s,.slice A l.len c,.slice A' m.len c'] 58)).heap.size=w.heap.size+1:=by simp
     rw [hsz] at HO
     clear hsz hc4 hbox4 HB
     go_loopg [21] m.len (fun g i wx=>∃ q:Nat,q+g=m.len∧i=.int .i64 q∧Below w.heap.size w wx∧Aside (RB w.heap.size m.len (w.heap.size+1) B m.vals wx q))
     case atStart=>exact ⟨0,by omega,rfl,HB2.out,vaside ⟨_,HO.out,fun j v hj=>absurd hj (Nat.not_lt_zero _)⟩⟩
     case round =>
      obtain ⟨q,hq,rfl,hb,HA⟩:=hrel
      have HBB:=Hd hb
      clear hb HO HB2
      cases gk with
      | zero =>
        obtain rfl:q=m.len:=by omega
        go_wp2_with fail
        go_ret
        exact ⟨some ⟨w.heap.size+1,0,none⟩,m.len,by rw [kids_map,VM.len_vals];rfl,by rw [kids_map];exact RB.row HA (VM.len_vals m),HBB.out⟩
      | succ g =>
        have hqn:q < m.len:=by omega
        have hqn':(q:Int) < (m.len:Int):=by omega
        obtain ⟨⟨nm,v⟩,hv⟩:=VM.get_lt hqn
        obtain ⟨b,o,d0,d1,d2,d3,d4,rfl,hblt,hnm,_,hF,hV⟩:=MAt.at (MAt.below (HBB.out.mono HB0.out) _ _ _ HM.out) hv
        rw [Nat.zero_add] at hF hnm
        have hV0:=Hd hV
        have HV:=Hd (VM.get_vals hv)
        obtain ⟨vk,vn,vs,vl,vm⟩:=v
        unfold VAt at hV
        obtain ⟨rfl,rfl,rfl,_,⟨A3,c3',rfl,_,_⟩,A4,c4',rfl,_,_⟩:=hV
        obtain ⟨f0,f1,f2,f3,f4⟩:=hF
        obtain ⟨xs,hown,hfill⟩:=HA
        have hlen:=hown.1
        obtain ⟨z0,hz0'⟩:∃ z,xs[q*5]? = some z:=⟨_,List.getElem?_eq_getElem (by omega)⟩
        obtain ⟨z1,hz1'⟩:∃ z,xs[q*5+1]? = some z:=⟨_,List.getElem?_eq_getElem (by omega)⟩
        obtain ⟨z2,hz2'⟩:∃ z,xs[q*5+2]? = some z:=⟨_,List.getElem?_eq_getElem (by omega)⟩
        obtain ⟨z3,hz3'⟩:∃ z,xs[q*5+3]? = some z:=⟨_,List.getElem?_eq_getElem (by omega)⟩
        obtain ⟨z4,hz4'⟩:∃ z,xs[q*5+4]? = some z:=⟨_,List.getElem?_eq_getElem (by omega)⟩
        have hat:=fun i u (hi:xs[i]? = some u)=>(World.ownsRow.cellAt hown i (by rw [← hlen];exact (List.getElem?_eq_some_iff.1 hi).1)).trans hi
        have y0:=hat _ _ hz0'
        have y1:=hat _ _ hz1'
        have y2:=hat _ _ hz2'
        have y3:=hat _ _ hz3'
        have y4:=hat _ _ hz4'
        have hGlt:w.heap.size+1 < wr.heap.size:=(hown.lt _ rfl).2
        have q0:=not_frozen hown (q*5)
        have q1:=not_frozen hown (q*5+1)
        have q2:=not_frozen hown (q*5+2)
        have q3:=not_frozen hown (q*5+3)
        have q4:=not_frozen hown (q*5+4)
        have HO:=Hd hown
        have HFI:=Hd hfill
        have HZ:=Hd (And.intro hz0' (And.intro hz1' (And.intro hz2' (And.intro hz3' hz4'))))
        clear hat hz0' hz1' hz2' hz3' hz4' hown hfill hlen hv
        go_wp2_with fail
        go_roundg g
        case measure=>omega
        case rel=>exact ⟨q+1,by omega,by go_num,stored_below HBB.out (Nat.le_succ _),vaside (stored_filled HB0.out HBB.out (Nat.le_succ _) HO.out HFI.out hqn HV.out hV0.out)⟩
   · have e6:(k == 6)=false:=by simpa using k6
     have e7:(k == 7)=false:=by simpa using k7
     have hk:=Hd (kids_none k n s l m k6 k7)
     clear k6 k7
     go_enter Tryz.func201,Tryz.ntmps201
     go_wp2_with fail
     go_ret
     exact within_said (c:=0) (A:=none) hk.out (fun j v hj=>by simp [VL.get] at hj) HB.out
theorem kids_get_size {v x:VT} {j:Nat} (h:v.kids.get j=some x):sizeV x+1≤sizeV v:=by
 have:=size_kids v
 have:=sizeL_get h
 omega
theorem ret_int {a b:Int} (h:a=b):Ending.returned (.int .i64 a)=.returned (.int .i64 b):=by rw [h]
theorem max_nat (a b:Nat):max (a:Int) (b:Int)=((max a b:Nat):Int):=by omega
def DepC (v:VT):Prop:=∀ (c0 c1 c2 c3 c4:Value) (w:World) (B:Nat),B≤w.heap.size→VAt w B v c0 c1 c2 c3 c4 →
 Calls Tryz.prog 222 #[.agg #[c0,c1,c2,c3,c4]] w fun e w'=>e=.returned (.int .i64 (depV v))∧Below w.heap.size w w'
theorem depth_step (N:Nat) (hN:N+1≤1100000) (H:∀ u,sizeV u≤N→DepC u):∀ u,sizeV u≤N+1→DepC u:=by
 intro u hu c0 c1 c2 c3 c4 w B hB hv
 have HS:=Hd H
 have hW:=within_any u (by omega)
 have hv0:=Hd hv
 have HB0:=Hd hB
 have hkg:=Hd (fun (x:VT) (j:Nat) (h:u.kids.get j=some x)=>kids_get_size h)
 have hks:=Hd (size_kids u)
 have hls:=Hd (len_size u.kids)
 obtain ⟨k,n,s,l,m⟩:=u
 have hdk:=Hd (dep_kids k n s l m)
 have hd0:Hid (¬ k=6→¬ k=7→depV (.mk k n s l m)=0):=Hd (fun h6 h7=>by rw [depV,if_neg h6,if_neg h7])
 generalize hU:VT.mk k n s l m=U at *
 have hv':=hv
 rw [← hU] at hv'
 unfold VAt at hv'
 obtain ⟨rfl,rfl,rfl,_,⟨A,c,rfl,hl,hL⟩,A',c',rfl,hm,hM⟩:=hv'
 have HW:=Hd hW
 have HU:=Hd hu
 have hb0:Below w.heap.size w (w.alloc (.cells #[.int .i64 k,.int .i64 n,.string s,.slice A l.len c,.slice A' m.len c'] 58)):=(Below.refl _ _).alloc (Nat.le_refl _) _
 have HB:=Hd hb0
 clear H hB hv hW hL hM hu hU hb0
 obtain ⟨n6,h6⟩:∃ b,(k != 6)=b:=⟨_,rfl⟩
 obtain ⟨n7,h7⟩:∃ b,(k != 7)=b:=⟨_,rfl⟩
 by_cases hk:k=6∨k=7
 · have hD:=Hd (hdk.out hk)
   have hb:n6=true→n7=false:=by
    intro e
    rw [e] at h6
    have : ¬ k=6:=by simpa using h6
    have:k=7:=by omega
    rw [← h7];simp [this]
   have HK:=Hd hk
   clear hk hd0
   cases n6
   rotate_left
   obtain rfl:=hb rfl
   all_goals
    clear hb
    go_enter Tryz.func222,Tryz.ntmps222
    go_wp2_with fail
    refine (HW.out _ _ _ _ _ _ B (Nat.le_trans HB0.out HB.out.size) (VAt.below (HB.out.mono HB0.out) _ _ _ _ _ _ hv0.out)).mono ?_
    rintro e w1 ⟨A1,c1',rfl,hrow,hb1⟩
    have HB1:=Hd (HB.out.trans (hb1.mono HB.out.size))
    have HR:=Hd hrow
    clear hrow hb1
    go_wp2_with fail
    go_loopg [3,17] U.kids.len (fun g mo i wx=>∃ q:Nat,q+g=U.kids.len∧i=.int .i64 q∧mo=.int .i64 (depTo U.kids q)∧Below w.heap.size w wx∧Aside (RowV wx B U.kids A1))
    case atStart=>exact ⟨0,by omega,rfl,by rw [depTo_zero];rfl,HB1.out,vaside HR.out⟩
    case round =>
     obtain ⟨q,hq,rfl,rfl,hb,HA⟩:=hrel
     have HBB:=Hd hb
     have HRR:=Hd HA.out
     have hwr:=hb.size
     clear hb HA HR HB1
     cases gk with
     | zero =>
       obtain rfl:q=U.kids.len:=by omega
       have hsm:=Nat.le_trans (depL_size U.kids) (Nat.le_of_succ_le (Nat.le_trans hks.out HU.out))
       rw [depTo_all]
       have hadd:(1:Int)+(depL U.kids:Int)=((depL U.kids+1:Nat):Int):=by omega
       go_wp2_with fail
       go_ret
       exact ⟨ret_int (by rw [hD.out];omega),HBB.out⟩
     | succ g =>
       have hqn:q < U.kids.len:=by omega
       have hq9:q < 1100000:=by have h1:=hks.out;have h2:=hls.out;have h3:=HU.out;omega
       have hqn':(q:Int) < (U.kids.len:Int):=by omega
       obtain ⟨x,hx⟩:=VL.get_lt hqn
       have hxs:=hkg.out x q hx
       have hnx:=Hd (depTo_next hx)
       obtain ⟨b,o,d0,d1,d2,d3,d4,rfl,hblt,hF,hV⟩:=HRR.out q x hx
       have hBr:=Nat.le_trans HB0.out hwr
       have C:=fun (wx:World) (hx:Below wr.heap.size wr wx)=>Hd (HS.out x (by have:=HU.out;omega) d0 d1 d2 d3 d4 wx B (Nat.le_trans hBr hx.size) (VAt.below (hx.mono hBr) _ _ _ _ _ _ hV))
       obtain ⟨xk,xn,xs,xl,xm⟩:=x
       have hV':=hV
       unfold VAt at hV'
       obtain ⟨rfl,rfl,rfl,_,⟨A3,c3',rfl,_,_⟩,A4,c4',rfl,_,_⟩:=hV'
       obtain ⟨f0,f1,f2,f3,f4⟩:=hF
       have hnew:=Hd (fun o=>(Below.refl wr.heap.size wr).alloc (Nat.le_refl _) o)
       have hmx:=max_nat (depTo U.kids q) (depV (.mk xk xn xs xl xm))
       clear hV hx hxs
       go_wp2_with fail
       refine (C _ (hnew.out _)).out.mono ?_
       rintro e w2 ⟨rfl,hb2⟩
       have hb3:=(hnew.out _).trans (hb2.mono (Nat.le_of_lt (by simp)))
       have HB3:=Hd (HBB.out.trans (hb3.mono hwr))
       have HR3:=Hd (HRR.out.below hBr hb3)
       clear hb2 hb3 C f0 f1 f2 f3 f4
       go_wp2_with fail
       go_roundg g
       case measure=>omega
       case rel=>exact ⟨q+1,by omega,by go_num,by rw [hnx.out],HB3.out,vaside HR3.out⟩
 · have hD:=Hd (hd0.out (fun e=>hk (Or.inl e)) (fun e=>hk (Or.inr e)))
   have e6:(k != 6)=true:=by simp;omega
   have e7:(k != 7)=true:=by simp;omega
   clear hk hd0 h6 h7
   go_enter Tryz.func222,Tryz.ntmps222
   go_wp2_with fail
   go_ret
   exact ⟨ret_int (by rw [hD.out];rfl),HB.out⟩
theorem depth_all:∀ N,N≤1100000→∀ u,sizeV u≤N→DepC u
 | 0,_,u,h=>by cases u;rw [sizeV] at h;omega
 | N+1,hN,u,h=>depth_step N hN (depth_all N (by omega)) u h
theorem depth_any (u:VT) (h:sizeV u≤1100000):DepC u:=depth_all 1100000 (Nat.le_refl _) u h
theorem runL_no {l:List UInt8} (h:headB digU l=false):runL l=0:=by
 cases l with
 | nil=>rfl
 | cons b t=>unfold runL;rw [List.takeWhile_cons];have:digU b=false:=h;simp [this]
theorem runL_yes {b:UInt8} {t:List UInt8} (h:digU b=true):runL (b :: t)=1+runL t:=by
 unfold runL;rw [List.takeWhile_cons];simp [h];omega
theorem digits_any (s:ByteArray) (w:World) (hs:s.size≤1100000):Calls Tryz.prog 252 #[.string s] w fun e w'=>e=.returned (.int .i64 (runL s.data.toList))∧w=w':=by
 go_enter Tryz.func252,Tryz.ntmps252
 go_wp2
 go_loopg [3] s.size (fun g i wx=>∃ k:Nat,k+g=s.size∧i=.int .i64 k∧w=wx∧Aside (runL s.data.toList=k+runL (s.data.toList.drop k)))
 case atStart=>exact ⟨0,by omega,rfl,rfl,Aside.intro (by simp)⟩
 case round =>
  obtain ⟨k,hk,rfl,rfl,H⟩:=hrel
  have hks:(k:Int)≤(s.size:Int):=by omega
  have hk0:(0:Int)≤(k:Int):=by omega
  have hD:=tdigit_any (s.extract k s.size) w
  rw [ext_data] at hD
  have HD:=Hd hD
  clear hD
  cases hb:headB digU (s.data.toList.drop k)
  · have hr:=Hd (H.out.trans (by rw [runL_no hb]))
    have hb':=Hd hb
    clear H hb
    go_wp2_with fail
    refine HD.out.mono ?_
    rintro e w1 ⟨rfl,rfl⟩
    rw [hb'.out]
    go_wp2_with fail
    go_ret
    exact ⟨ret_i (by rw [hr.out];simp),rfl⟩
  · have hkl:k < s.size:=by
     rcases Nat.lt_or_ge k s.size with h|h
     · exact h
     · rw [drop_all s k h] at hb;cases hb
    have hr:Hid (runL s.data.toList=(k+1:Nat)+runL (s.data.toList.drop (k+1))):=Hd (by
     rw [drop_at s k hkl] at hb
     rw [H.out,drop_at s k hkl,runL_yes hb]
     omega)
    have hb':=Hd hb
    clear H hb
    go_wp2_with fail
    refine HD.out.mono ?_
    rintro e w1 ⟨rfl,rfl⟩
    rw [hb'.out]
    go_wp2_with fail
    go_roundg (gk - 1)
    case measure=>omega
    case rel=>exact ⟨k+1,by omega,by go_num,rfl,Aside.intro hr.out⟩
theorem pre_one (a:UInt8) (l:List UInt8):pre [a] l=headB (fun b=>b == a) l:=by
 cases l with
 | nil=>rfl
 | cons b t =>
   unfold pre headB
   rw [List.isPrefixOf_cons_cons]
   cases h:(b == a)
   · have h1:b ≠ a:=by simpa using h
     have h2:(a == b)=false:=by simpa using fun e=>h1 e.symm
     simp [h1,h2]
   · have:b=a:=by simpa using h
     subst this
     simp
theorem hasP (s q:ByteArray) (w:World) (b:Bool) (h:pre q.data.toList s.data.toList=b):Calls Tryz.prog 146 #[.string s,.string q] w fun e w'=>e=.returned (.bool b)∧w=w':=
 (hasPrefix_any s q w).mono fun _ _ ⟨he,hw⟩=>⟨by rw [he,← h];rfl,hw.symm⟩
theorem beqT {b c:UInt8} (h:(b == c)=true) (n:Int) (hn:(c.toNat:Int)=n):((b.toNat:Int) == n)=true∧((b.toNat:Int) != n)=false:=by
 have:b=c:=by simpa using h
 subst this
 simp [hn]
theorem beqF {b c:UInt8} (h:(b == c)=false) (n:Int) (hn:(c.toNat:Int)=n):((b.toNat:Int) == n)=false∧((b.toNat:Int) != n)=true:=by
 have hne:b ≠ c:=by simpa using h
 have:(b.toNat:Int) ≠ n:=fun e=>hne (UInt8.toNat_inj.1 (by omega))
 simp [this]
theorem digits_at (s:ByteArray) (k:Nat) (w:World) (hs:s.size≤1100000):Calls Tryz.prog 252 #[.string (s.extract k s.size)] w fun e w'=>e=.returned (.int .i64 (runL (s.data.toList.drop k)))∧w=w':=by
 have h:=digits_any (s.extract k s.size) w (by rw [ext_size];omega)
 rwa [ext_data] at h
theorem fraction_any (s:ByteArray) (w:World) (hs:s.size≤1100000):Calls Tryz.prog 253 #[.string s] w fun e w'=>e=.returned (.int .i64 (fracL s.data.toList))∧w=w':=by
 cases hp:pre [46] s.data.toList
 · have HP:=Hd (hasP s ⟨#[46]⟩ w false hp)
   have hr:Hid (fracL s.data.toList=0):=Hd (by
     cases hl:s.data.toList with
     | nil=>rfl
     | cons b t =>
       rw [hl] at hp
       have:(b == 46)=false:=by
        cases hb:(b == 46)
        · rfl
        · have:b=46:=by simpa using hb
          subst this
          cases hp
       simp only [fracL,this]
       rfl)
   clear hp
   go_enter Tryz.func253,Tryz.ntmps253
   go_wp2_with fail
   refine HP.out.mono ?_
   rintro e w1 ⟨rfl,rfl⟩
   go_wp2_with fail
   go_ret
   exact ⟨ret_i (by rw [hr.out];rfl),rfl⟩
 · have HP:=Hd (hasP s ⟨#[46]⟩ w true hp)
   have h0:1≤s.size:=by have:=pre_len hp;rw [len_data] at this;exact this
   have h0':(1:Int)≤(s.size:Int):=by omega
   have hc:s[0]=46:=by
     rw [cons_at s h0] at hp
     unfold pre at hp
     rw [List.isPrefixOf_cons_cons] at hp
     simp at hp
     exact hp.symm
   have hr:Hid (fracL s.data.toList=if runL (s.data.toList.drop 1)=0 then 0 else 1+runL (s.data.toList.drop 1)):=Hd (by
     rw [cons_at s h0,hc];simp [fracL])
   have hD:=digits_at s 1 w hs
   have hrl:=runL_le (s.data.toList.drop 1)
   rw [List.length_drop,len_data] at hrl
   obtain ⟨r,hR⟩:∃ r,runL (s.data.toList.drop 1)=r:=⟨_,rfl⟩
   rw [hR] at hD hrl
   have HD:=Hd hD
   have HR:=Hd hR
   clear hp hc hD hR
   rcases Nat.eq_zero_or_pos r with hz|hz
   · have e0:((r:Int) == 0)=true:=by simp;omega
     have hz':=Hd hz
     clear hz
     go_enter Tryz.func253,Tryz.ntmps253
     go_wp2_with fail
     refine HP.out.mono ?_
     rintro e w1 ⟨rfl,rfl⟩
     go_wp2_with fail
     refine HD.out.mono ?_
     rintro e w1 ⟨rfl,rfl⟩
     go_wp2_with fail
     go_ret
     exact ⟨ret_i (by rw [hr.out,HR.out,if_pos hz'.out];rfl),rfl⟩
   · have e0:((r:Int) == 0)=false:=by simp;omega
     have hz':=Hd hz
     clear hz
     go_enter Tryz.func253,Tryz.ntmps253
     go_wp2_with fail
     refine HP.out.mono ?_
     rintro e w1 ⟨rfl,rfl⟩
     go_wp2_with fail
     refine HD.out.mono ?_
     rintro e w1 ⟨rfl,rfl⟩
     go_wp2_with fail
     go_ret
     exact ⟨ret_i (by have:=hz'.out;rw [hr.out,HR.out,if_neg (by omega)];omega),rfl⟩
theorem expoL_at (s:ByteArray) (h:0 < s.size):expoL s.data.toList=if s[0] == 101 || s[0] == 69 then (if runL (s.data.toList.drop (1+signL (s.data.toList.drop 1)))=0 then 0 else 1+signL (s.data.toList.drop 1)+runL (s.data.toList.drop (1+signL (s.data.toList.drop 1)))) else 0:=by
 have e:∀ k,s.data.toList.drop (1+k)=(s.data.toList.drop 1).drop k:=fun k=>by rw [List.drop_drop]
 rw [e]
 conv=>lhs;rw [cons_at s h]
 rfl
theorem exponent_any (s:ByteArray) (w:World) (hs:s.size≤1100000):Calls Tryz.prog 254 #[.string s] w fun e w'=>e=.returned (.int .i64 (expoL s.data.toList))∧w=w':=by
 rcases Nat.eq_zero_or_pos s.size with h0|h0
 · have hr:Hid (expoL s.data.toList=0):=Hd (by rw [nil_of_size h0];rfl)
   have he:=empty_yes h0
   go_enter Tryz.func254,Tryz.ntmps254
   go_wp2_with fail
   go_ret
   exact ⟨ret_i (by rw [hr.out];rfl),rfl⟩
 have he:=empty_no h0
 have HE:=Hd (expoL_at s h0)
 have h0':(0:Int) < (s.size:Int):=by omega
 cases ha:(s[0] == 101)
 · obtain ⟨a1,a2⟩:=beqF ha 101 rfl
   cases hb:(s[0] == 69)
   · obtain ⟨b1,b2⟩:=beqF hb 69 rfl
     have hr:Hid (expoL s.data.toList=0):=Hd (by rw [HE.out,ha,hb];rfl)
     clear HE ha hb
     go_enter Tryz.func254,Tryz.ntmps254
     go_wp2_with fail
     go_ret
     exact ⟨ret_i (by rw [hr.out];rfl),rfl⟩
   · obtain ⟨b1,b2⟩:=beqT hb 69 rfl
     have hE:Hid ((s[0] == 101 || s[0] == 69)=true):=Hd (by rw [hb,Bool.or_true])
     clear ha hb
     by_cases h1:1 < s.size
     · have h1':(1:Int) < (s.size:Int):=by omega
       have hcons:=drop_at s 1 h1
       cases hp:(s[1] == 43)
       · obtain ⟨p1,p2⟩:=beqF hp 43 rfl
         cases hm:(s[1] == 45)
         · obtain ⟨m1,m2⟩:=beqF hm 45 rfl
           have hsg:signL (s.data.toList.drop 1)=0:=by rw [hcons];simp [signL,hp,hm]
           clear hcons hp hm
           have hr:Hid (expoL s.data.toList=if runL (s.data.toList.drop 1)=0 then 0 else 1+runL (s.data.toList.drop 1)):=Hd (by rw [HE.out,hsg,if_pos hE.out])
           have hD:=digits_at s 1 w hs
           have hrl:=runL_le (s.data.toList.drop 1)
           rw [List.length_drop,len_data] at hrl
           obtain ⟨r,hR⟩:∃ r,runL (s.data.toList.drop 1)=r:=⟨_,rfl⟩
           rw [hR] at hD hrl
           have HD:=Hd hD
           have HR:=Hd hR
           clear hsg HE hE hD hR
           rcases Nat.eq_zero_or_pos r with hz|hz
           · have e0:((r:Int) == 0)=true:=by simp;omega
             have hz':=Hd hz
             clear hz
             go_enter Tryz.func254,Tryz.ntmps254
             go_wp2_with fail
             refine HD.out.mono ?_
             rintro e w1 ⟨rfl,rfl⟩
             go_wp2_with fail
             go_ret
             exact ⟨ret_i (by rw [hr.out,HR.out,if_pos hz'.out];rfl),rfl⟩
           · have e0:((r:Int) == 0)=false:=by simp;omega
             have hz':=Hd hz
             clear hz
             go_enter Tryz.func254,Tryz.ntmps254
             go_wp2_with fail
             refine HD.out.mono ?_
             rintro e w1 ⟨rfl,rfl⟩
             go_wp2_with fail
             go_ret
             exact ⟨ret_i (by have:=hz'.out;rw [hr.out,HR.out,if_neg (by omega)];omega),rfl⟩
         · obtain ⟨m1,m2⟩:=beqT hm 45 rfl
           have hsg:signL (s.data.toList.drop 1)=1:=by rw [hcons];simp [signL,hp,hm]
           clear hcons hp hm
           have hr:Hid (expoL s.data.toList=if runL (s.data.toList.drop 2)=0 then 0 else 2+runL (s.data.toList.drop 2)):=Hd (by rw [HE.out,hsg,if_pos hE.out])
           have hD:=digits_at s 2 w hs
           have hrl:=runL_le (s.data.toList.drop 2)
           rw [List.length_drop,len_data] at hrl
           obtain ⟨r,hR⟩:∃ r,runL (s.data.toList.drop 2)=r:=⟨_,rfl⟩
           rw [hR] at hD hrl
           have HD:=Hd hD
           have HR:=Hd hR
           clear hsg HE hE hD hR
           rcases Nat.eq_zero_or_pos r with hz|hz
           · have e0:((r:Int) == 0)=true:=by simp;omega
             have hz':=Hd hz
             clear hz
             go_enter Tryz.func254,Tryz.ntmps254
             go_wp2_with fail
             refine HD.out.mono ?_
             rintro e w1 ⟨rfl,rfl⟩
             go_wp2_with fail
             go_ret
             exact ⟨ret_i (by rw [hr.out,HR.out,if_pos hz'.out];rfl),rfl⟩
           · have e0:((r:Int) == 0)=false:=by simp;omega
             have hz':=Hd hz
             clear hz
             go_enter Tryz.func254,Tryz.ntmps254
             go_wp2_with fail
             refine HD.out.mono ?_
             rintro e w1 ⟨rfl,rfl⟩
             go_wp2_with fail
             go_ret
             exact ⟨ret_i (by have:=hz'.out;rw [hr.out,HR.out,if_neg (by omega)];omega),rfl⟩
       · obtain ⟨p1,p2⟩:=beqT hp 43 rfl
         have hsg:signL (s.data.toList.drop 1)=1:=by rw [hcons];simp [signL,hp]
         clear hcons hp
         have hr:Hid (expoL s.data.toList=if runL (s.data.toList.drop 2)=0 then 0 else 2+runL (s.data.toList.drop 2)):=Hd (by rw [HE.out,hsg,if_pos hE.out])
         have hD:=digits_at s 2 w hs
         have hrl:=runL_le (s.data.toList.drop 2)
         rw [List.length_drop,len_data] at hrl
         obtain ⟨r,hR⟩:∃ r,runL (s.data.toList.drop 2)=r:=⟨_,rfl⟩
         rw [hR] at hD hrl
         have HD:=Hd hD
         have HR:=Hd hR
         clear hsg HE hE hD hR
         rcases Nat.eq_zero_or_pos r with hz|hz
         · have e0:((r:Int) == 0)=true:=by simp;omega
           have hz':=Hd hz
           clear hz
           go_enter Tryz.func254,Tryz.ntmps254
           go_wp2_with fail
           refine HD.out.mono ?_
           rintro e w1 ⟨rfl,rfl⟩
           go_wp2_with fail
           go_ret
           exact ⟨ret_i (by rw [hr.out,HR.out,if_pos hz'.out];rfl),rfl⟩
         · have e0:((r:Int) == 0)=false:=by simp;omega
           have hz':=Hd hz
           clear hz
           go_enter Tryz.func254,Tryz.ntmps254
           go_wp2_with fail
           refine HD.out.mono ?_
           rintro e w1 ⟨rfl,rfl⟩
           go_wp2_with fail
           go_ret
           exact ⟨ret_i (by have:=hz'.out;rw [hr.out,HR.out,if_neg (by omega)];omega),rfl⟩
     · have h1' : ¬ ((1:Int) < (s.size:Int)):=by omega
       have hsg:signL (s.data.toList.drop 1)=0:=by rw [drop_all s 1 (by omega)];rfl
       have hr:Hid (expoL s.data.toList=if runL (s.data.toList.drop 1)=0 then 0 else 1+runL (s.data.toList.drop 1)):=Hd (by rw [HE.out,hsg,if_pos hE.out])
       have hD:=digits_at s 1 w hs
       have hrl:=runL_le (s.data.toList.drop 1)
       rw [List.length_drop,len_data] at hrl
       obtain ⟨r,hR⟩:∃ r,runL (s.data.toList.drop 1)=r:=⟨_,rfl⟩
       rw [hR] at hD hrl
       have HD:=Hd hD
       have HR:=Hd hR
       clear hsg HE hE hD hR
       rcases Nat.eq_zero_or_pos r with hz|hz
       · have e0:((r:Int) == 0)=true:=by simp;omega
         have hz':=Hd hz
         clear hz
         go_enter Tryz.func254,Tryz.ntmps254
         go_wp2_with fail
         refine HD.out.mono ?_
         rintro e w1 ⟨rfl,rfl⟩
         go_wp2_with fail
         go_ret
         exact ⟨ret_i (by rw [hr.out,HR.out,if_pos hz'.out];rfl),rfl⟩
       · have e0:((r:Int) == 0)=false:=by simp;omega
         have hz':=Hd hz
         clear hz
         go_enter Tryz.func254,Tryz.ntmps254
         go_wp2_with fail
         refine HD.out.mono ?_
         rintro e w1 ⟨rfl,rfl⟩
         go_wp2_with fail
         go_ret
         exact ⟨ret_i (by have:=hz'.out;rw [hr.out,HR.out,if_neg (by omega)];omega),rfl⟩
 · obtain ⟨a1,a2⟩:=beqT ha 101 rfl
   have hE:Hid ((s[0] == 101 || s[0] == 69)=true):=Hd (by rw [ha,Bool.true_or])
   clear ha
   by_cases h1:1 < s.size
   · have h1':(1:Int) < (s.size:Int):=by omega
     have hcons:=drop_at s 1 h1
     cases hp:(s[1] == 43)
     · obtain ⟨p1,p2⟩:=beqF hp 43 rfl
       cases hm:(s[1] == 45)
       · obtain ⟨m1,m2⟩:=beqF hm 45 rfl
         have hsg:signL (s.data.toList.drop 1)=0:=by rw [hcons];simp [signL,hp,hm]
         clear hcons hp hm
         have hr:Hid (expoL s.data.toList=if runL (s.data.toList.drop 1)=0 then 0 else 1+runL (s.data.toList.drop 1)):=Hd (by rw [HE.out,hsg,if_pos hE.out])
         have hD:=digits_at s 1 w hs
         have hrl:=runL_le (s.data.toList.drop 1)
         rw [List.length_drop,len_data] at hrl
         obtain ⟨r,hR⟩:∃ r,runL (s.data.toList.drop 1)=r:=⟨_,rfl⟩
         rw [hR] at hD hrl
         have HD:=Hd hD
         have HR:=Hd hR
         clear hsg HE hE hD hR
         rcases Nat.eq_zero_or_pos r with hz|hz
         · have e0:((r:Int) == 0)=true:=by simp;omega
           have hz':=Hd hz
           clear hz
           go_enter Tryz.func254,Tryz.ntmps254
           go_wp2_with fail
           refine HD.out.mono ?_
           rintro e w1 ⟨rfl,rfl⟩
           go_wp2_with fail
           go_ret
           exact ⟨ret_i (by rw [hr.out,HR.out,if_pos hz'.out];rfl),rfl⟩
         · have e0:((r:Int) == 0)=false:=by simp;omega
           have hz':=Hd hz
           clear hz
           go_enter Tryz.func254,Tryz.ntmps254
           go_wp2_with fail
           refine HD.out.mono ?_
           rintro e w1 ⟨rfl,rfl⟩
           go_wp2_with fail
           go_ret
           exact ⟨ret_i (by have:=hz'.out;rw [hr.out,HR.out,if_neg (by omega)];omega),rfl⟩
       · obtain ⟨m1,m2⟩:=beqT hm 45 rfl
         have hsg:signL (s.data.toList.drop 1)=1:=by rw [hcons];simp [signL,hp,hm]
         clear hcons hp hm
         have hr:Hid (expoL s.data.toList=if runL (s.data.toList.drop 2)=0 then 0 else 2+runL (s.data.toList.drop 2)):=Hd (by rw [HE.out,hsg,if_pos hE.out])
         have hD:=digits_at s 2 w hs
         have hrl:=runL_le (s.data.toList.drop 2)
         rw [List.length_drop,len_data] at hrl
         obtain ⟨r,hR⟩:∃ r,runL (s.data.toList.drop 2)=r:=⟨_,rfl⟩
         rw [hR] at hD hrl
         have HD:=Hd hD
         have HR:=Hd hR
         clear hsg HE hE hD hR
         rcases Nat.eq_zero_or_pos r with hz|hz
         · have e0:((r:Int) == 0)=true:=by simp;omega
           have hz':=Hd hz
           clear hz
           go_enter Tryz.func254,Tryz.ntmps254
           go_wp2_with fail
           refine HD.out.mono ?_
           rintro e w1 ⟨rfl,rfl⟩
           go_wp2_with fail
           go_ret
           exact ⟨ret_i (by rw [hr.out,HR.out,if_pos hz'.out];rfl),rfl⟩
         · have e0:((r:Int) == 0)=false:=by simp;omega
           have hz':=Hd hz
           clear hz
           go_enter Tryz.func254,Tryz.ntmps254
           go_wp2_with fail
           refine HD.out.mono ?_
           rintro e w1 ⟨rfl,rfl⟩
           go_wp2_with fail
           go_ret
           exact ⟨ret_i (by have:=hz'.out;rw [hr.out,HR.out,if_neg (by omega)];omega),rfl⟩
     · obtain ⟨p1,p2⟩:=beqT hp 43 rfl
       have hsg:signL (s.data.toList.drop 1)=1:=by rw [hcons];simp [signL,hp]
       clear hcons hp
       have hr:Hid (expoL s.data.toList=if runL (s.data.toList.drop 2)=0 then 0 else 2+runL (s.data.toList.drop 2)):=Hd (by rw [HE.out,hsg,if_pos hE.out])
       have hD:=digits_at s 2 w hs
       have hrl:=runL_le (s.data.toList.drop 2)
       rw [List.length_drop,len_data] at hrl
       obtain ⟨r,hR⟩:∃ r,runL (s.data.toList.drop 2)=r:=⟨_,rfl⟩
       rw [hR] at hD hrl
       have HD:=Hd hD
       have HR:=Hd hR
       clear hsg HE hE hD hR
       rcases Nat.eq_zero_or_pos r with hz|hz
       · have e0:((r:Int) == 0)=true:=by simp;omega
         have hz':=Hd hz
         clear hz
         go_enter Tryz.func254,Tryz.ntmps254
         go_wp2_with fail
         refine HD.out.mono ?_
         rintro e w1 ⟨rfl,rfl⟩
         go_wp2_with fail
         go_ret
         exact ⟨ret_i (by rw [hr.out,HR.out,if_pos hz'.out];rfl),rfl⟩
       · have e0:((r:Int) == 0)=false:=by simp;omega
         have hz':=Hd hz
         clear hz
         go_enter Tryz.func254,Tryz.ntmps254
         go_wp2_with fail
         refine HD.out.mono ?_
         rintro e w1 ⟨rfl,rfl⟩
         go_wp2_with fail
         go_ret
         exact ⟨ret_i (by have:=hz'.out;rw [hr.out,HR.out,if_neg (by omega)];omega),rfl⟩
   · have h1' : ¬ ((1:Int) < (s.size:Int)):=by omega
     have hsg:signL (s.data.toList.drop 1)=0:=by rw [drop_all s 1 (by omega)];rfl
     have hr:Hid (expoL s.data.toList=if runL (s.data.toList.drop 1)=0 then 0 else 1+runL (s.data.toList.drop 1)):=Hd (by rw [HE.out,hsg,if_pos hE.out])
     have hD:=digits_at s 1 w hs
     have hrl:=runL_le (s.data.toList.drop 1)
     rw [List.length_drop,len_data] at hrl
     obtain ⟨r,hR⟩:∃ r,runL (s.data.toList.drop 1)=r:=⟨_,rfl⟩
     rw [hR] at hD hrl
     have HD:=Hd hD
     have HR:=Hd hR
     clear hsg HE hE hD hR
     rcases Nat.eq_zero_or_pos r with hz|hz
     · have e0:((r:Int) == 0)=true:=by simp;omega
       have hz':=Hd hz
       clear hz
       go_enter Tryz.func254,Tryz.ntmps254
       go_wp2_with fail
       refine HD.out.mono ?_
       rintro e w1 ⟨rfl,rfl⟩
       go_wp2_with fail
       go_ret
       exact ⟨ret_i (by rw [hr.out,HR.out,if_pos hz'.out];rfl),rfl⟩
     · have e0:((r:Int) == 0)=false:=by simp;omega
       have hz':=Hd hz
       clear hz
       go_enter Tryz.func254,Tryz.ntmps254
       go_wp2_with fail
       refine HD.out.mono ?_
       rintro e w1 ⟨rfl,rfl⟩
       go_wp2_with fail
       go_ret
       exact ⟨ret_i (by have:=hz'.out;rw [hr.out,HR.out,if_neg (by omega)];omega),rfl⟩
end Go.Proofs.YtaekdfcpbepepaaGreatDoor
