/- The walks of value.Get, Int and Text. -/
import Derived.Test.YtaekdfcpbepepaaGreatDoorQb7
set_option maxRecDepth 100000
set_option maxHeartbeats 8000000
namespace Go.Proofs.YtaekdfcpbepepaaGreatDoor
open Go.RowKit
theorem five_set {w:World} {b:Nat} {z0 z1 z2 z3 z4 v0 v1 v2 v3 v4:Value} {t:TypeId} (h:w.heap[b]? = some (.cells #[z0,z1,z2,z3,z4] t (0,0))):(((((w.setCell ⟨b,0,none⟩ v0).setCell ⟨b,1,none⟩ v1).setCell ⟨b,2,none⟩ v2).setCell ⟨b,3,none⟩ v3).setCell ⟨b,4,none⟩ v4).heap[b]? = some (.cells #[v0,v1,v2,v3,v4] t (0,0)):=
 heap_setCell_same _ b 4 _ _ _ (heap_setCell_same _ b 3 _ _ _ (heap_setCell_same _ b 2 _ _ _ (heap_setCell_same _ b 1 _ _ _ (heap_setCell_same _ b 0 _ _ _ h))))
theorem gvc {w:World} {b:Nat} {z0 z1 z2 z3 z4:Value} {t:TypeId} (h:w.heap[b]? = some (.cells #[z0,z1,z2,z3,z4] t (0,0))):w.cell? ⟨b,0,none⟩=some z0∧w.cell? ⟨b,1,none⟩=some z1∧w.cell? ⟨b,2,none⟩=some z2∧w.cell? ⟨b,3,none⟩=some z3∧w.cell? ⟨b,4,none⟩=some z4∧∀ i,w.frozen? ⟨b,i,none⟩=false:=by
 refine ⟨?_,?_,?_,?_,?_,fun i=>?_⟩
 all_goals first|(simp only [World.cell?,h];rfl)|simp [World.frozen?,h]
def ResAt (w wx:World):Prop:=wx.heap[w.heap.size]? = some (.cells #[.int .i64 0,.int .i64 0,.string ⟨#[]⟩,.slice none 0 0,.slice none 0 0] 58 (0,0))∧w.heap.size < wx.heap.size∧Below w.heap.size w wx
theorem ResAt.alloc {w wx:World} (h:ResAt w wx) (o:Obj):ResAt w (wx.alloc o):=
 ⟨(Below.heap_alloc _ _ _ h.2.1).trans h.1,by have:=h.2.1;simp;omega,h.2.2.alloc (Nat.le_of_lt h.2.1) o⟩
theorem pget_any (s:ByteArray) (m:VM) (A:Option Addr) (c:Nat) (w:World) (B:Nat) (hB:B≤w.heap.size) (hm:m.len≤9223372036854775807) (hM:MAt w B m A 0) :
  Calls Tryz.prog 232 #[.string s,.slice A m.len c] w fun e w'=>∃ d0 d1 d2 d3 d4,e=.returned (.tuple #[.agg #[d0,d1,d2,d3,d4],.bool (getM m s).2])∧VAt w' B (getM m s).1 d0 d1 d2 d3 d4∧Below w.heap.size w w':=by
 have HM:=Hd hM
 have HB0:=Hd hB
 clear hM hB
 have h0:=Hd (show ResAt w (w.alloc (.cells #[.int .i64 0,.int .i64 0,.string ⟨#[]⟩,.slice none 0 0,.slice none 0 0] 58)) from ⟨heap_alloc_new _ _,by simp,(Below.refl _ _).alloc (Nat.le_refl _) _⟩)
 go_enter Tryz.func232,Tryz.ntmps232
 go_wp2_with fail
 go_loopg [10] m.len (fun g i wx=>∃ q:Nat,q+g=m.len∧i=.int .i64 q∧Aside (getM (m.drop q) s=getM m s∧ResAt w wx))
 case atStart=>exact ⟨0,by omega,rfl,vaside ⟨by rw [VM.drop_zero],h0.out⟩⟩
 case round =>
  obtain ⟨q,hq,rfl,HA⟩:=hrel
  have HD:=Hd HA.1
  have HR:=Hd HA.2
  clear HA h0
  cases gk with
  | zero =>
    obtain rfl:q=m.len:=by omega
    have hG:Hid (getM m s=(.zero,false)):=Hd (by rw [← HD.out,VM.drop_all];rfl)
    obtain ⟨y0,y1,y2,y3,y4,yf⟩:=gvc HR.out.1
    have yf0:=yf 0
    have yf1:=yf 1
    have yf2:=yf 2
    have yf3:=yf 3
    have yf4:=yf 4
    clear yf
    go_wp2_with fail
    refine ret_v2 rfl rfl rfl (five_set HR.out.1) ?_
    rw [hG.out]
    exact got rfl (zeroAt _ _) (((((HR.out.2.2.setCell (p:=⟨_,_,none⟩) (Nat.le_refl _) _).setCell (p:=⟨_,_,none⟩) (Nat.le_refl _) _).setCell (p:=⟨_,_,none⟩) (Nat.le_refl _) _).setCell (p:=⟨_,_,none⟩) (Nat.le_refl _) _).setCell (p:=⟨_,_,none⟩) (Nat.le_refl _) _)
  | succ g =>
    have hqn:q < m.len:=by omega
    have hqn':(q:Int) < (m.len:Int):=by omega
    obtain ⟨⟨nm,v⟩,hv⟩:=VM.get_lt hqn
    obtain ⟨b,o,d0,d1,d2,d3,d4,rfl,hblt,hnm,hns,hF,hV⟩:=MAt.at (MAt.below (HR.out.2.2.mono HB0.out) _ _ _ HM.out) hv
    rw [Nat.zero_add] at hF hnm
    obtain ⟨g0,g1,g2,g3,g4⟩:=hF
    have hd:=Hd (VM.drop_get hv)
    have HV:=Hd hV
    obtain ⟨vk,vn,vs,vl,vm⟩:=v
    unfold VAt at hV
    obtain ⟨rfl,rfl,rfl,_,⟨A3,c3',rfl,_,_⟩,A4,c4',rfl,_,_⟩:=hV
    have HR1:=Hd (HR.out.alloc (.cells #[.string nm,.int .i64 vk,.int .i64 vn,.string vs,.slice A3 vl.len c3',.slice A4 vm.len c4'] 97))
    have HVr:=Hd (VAt.below ((Below.refl B wr).alloc (Nat.le_trans HB0.out (Nat.le_of_lt HR.out.2.1)) (.cells #[.string nm,.int .i64 vk,.int .i64 vn,.string vs,.slice A3 vl.len c3',.slice A4 vm.len c4'] 97)) _ _ _ _ _ _ HV.out)
    have hlt:=HR.out.2.1
    clear hv
    by_cases hnn:nm=s
    · subst hnn
      have e1':(nm.toList == nm.toList)=true:=by simp
      have hG:Hid (getM m nm=(.mk vk vn vs vl vm,true)):=Hd (by rw [← HD.out,hd.out,getM,if_pos rfl])
      obtain ⟨y0,y1,y2,y3,y4,yf⟩:=gvc HR1.out.1
      obtain ⟨x0,x1,x2,x3,x4,xf⟩:=gvc HR.out.1
      have yf0:=yf 0
      have yf1:=yf 1
      have yf2:=yf 2
      have yf3:=yf 3
      have yf4:=yf 4
      have xf0:=xf 0
      have xf1:=xf 1
      have xf2:=xf 2
      have xf3:=xf 3
      have xf4:=xf 4
      clear yf xf
      have hB5:=fun (B':Nat) (w':World) (h:Below B' w' wr) (hB':B'≤w.heap.size)=>(((((h.setCell (p:=⟨w.heap.size,0,none⟩) hB' (.int .i64 vk)).setCell (p:=⟨w.heap.size,1,none⟩) hB' (.int .i64 vn)).setCell (p:=⟨w.heap.size,2,none⟩) hB' (.string vs)).setCell (p:=⟨w.heap.size,3,none⟩) hB' (.slice A3 vl.len c3')).setCell (p:=⟨w.heap.size,4,none⟩) hB' (.slice A4 vm.len c4'))
      have H5:=Hd (fun (B':Nat) (w':World) (h:Below B' w' wr) (hB':B'≤w.heap.size)=>(hB5 B' w' h hB').alloc (Nat.le_trans hB' (hB5 w.heap.size w HR.out.2.2 (Nat.le_refl _)).size) (.cells #[.string nm,.int .i64 vk,.int .i64 vn,.string vs,.slice A3 vl.len c3',.slice A4 vm.len c4'] 97))
      clear hB5
      go_wp2_with fail
      refine ret_v2 rfl rfl rfl ((Below.heap_alloc _ _ _ (by simp only [World.setCell,Array.size_modify];exact HR.out.2.1)).trans (five_set HR.out.1)) ?_
      rw [hG.out]
      exact got rfl (VAt.below (H5.out B wr (Below.refl _ _) HB0.out) _ _ _ _ _ _ HV.out) (H5.out _ _ HR.out.2.2 (Nat.le_refl _))
    · have hne:nm.toList ≠ s.toList:=fun h=>hnn (by
       rw [ByteArray.toList_eq,ByteArray.toList_eq] at h
       exact ByteArray.ext (Array.toList_inj.1 h))
      have e1':(nm.toList == s.toList)=false:=by simpa using hne
      have hN:Hid (getM (m.drop (q+1)) s=getM m s):=Hd (by rw [← HD.out,hd.out,getM,if_neg hnn])
      clear hne hnn
      go_wp2_with fail
      go_roundg g
      case measure=>omega
      case rel=>exact ⟨q+1,by omega,by go_num,vaside ⟨hN.out,HR1.out⟩⟩
theorem and_one_all:∀ a:Fin 32,bits .and .i64 ((a.val:Nat):Int) 1=((a.val % 2:Nat):Int):=by decide +kernel
theorem and_one {m:Int} (h0:0≤m) (h1:m < 32):bits .and .i64 m 1=m % 2:=by
 obtain ⟨k,rfl⟩:=Int.eq_ofNat_of_zero_le h0
 have:=and_one_all ⟨k,by omega⟩
 simp only at this
 rw [this];omega
def isB (n:List UInt8) (l m:Int):Bool:=rightT n l m && (m % 2 == 1)
theorem wis_any (n:ByteArray) (l m:Int) (w:World) (hn:n.size≤9223372036854775807):Calls Tryz.prog 154 #[.agg #[.string n,.int .i64 l,.int .i64 m]] w fun e w'=>e=.returned (.bool (isB n.data.toList l m))∧Below w.heap.size w w':=by
 have HR:=fun w=>Hd (wright_any n l m w hn)
 cases hr:rightT n.data.toList l m
 · have hv:Hid (isB n.data.toList l m=false):=Hd (by simp [isB,hr])
   rw [hr] at HR
   clear hr
   go_enter Tryz.func154,Tryz.ntmps154
   go_wp2_with fail
   refine (HR _).out.mono ?_
   rintro e w2 ⟨rfl,hb2⟩
   obtain ⟨b0,HB⟩:=one_new hb2
   have HB':=Hd HB
   clear b0 HB hb2 HR
   go_wp2_with fail
   go_ret
   exact ⟨ret_bb hv.out.symm,HB'.out⟩
 · obtain ⟨s1,s2,s3,s4⟩:=right_small hr
   have ha:=and_one s3 s4
   rw [hr] at HR
   have hv:Hid (isB n.data.toList l m=(m % 2 == 1)):=Hd (by simp [isB,hr])
   obtain ⟨r,hR⟩:∃ r,m % 2=r:=⟨_,rfl⟩
   rw [hR] at ha hv
   have hr2:r=0∨r=1:=by omega
   clear hr hR
   rcases hr2 with rfl|rfl
   all_goals
    go_enter Tryz.func154,Tryz.ntmps154
    go_wp2_with fail
    refine (HR _).out.mono ?_
    rintro e w2 ⟨rfl,hb2⟩
    obtain ⟨b0,HB⟩:=one_new hb2
    obtain ⟨a0,a1,a2,g0,g1,g2⟩:=ty_cells b0
    have HB':=Hd HB
    clear b0 HB hb2 HR
    go_wp2_with fail
    go_ret
    exact ⟨ret_bb hv.out.symm,HB'.out⟩
def needB (x:VarT):Bool:=!x.has && isB x.tn.data.toList x.tl x.tm
def compB (m:VM) (ps:List VarT):Bool:=ps.all fun x=>!needB x || (getM m x.name).2
theorem compB_at {m:VM} {l:List VarT} {q:Nat} {x:VarT} (h:l[q]? = some x):compB m (l.drop q)=((!needB x || (getM m x.name).2) && compB m (l.drop (q+1))):=by
 have hq:q < l.length:=(List.getElem?_eq_some_iff.1 h).1
 have e:l[q]=x:=(List.getElem?_eq_some_iff.1 h).2
 unfold compB
 rw [List.drop_eq_getElem_cons hq,e,List.all_cons]
theorem complete_any (ps:List VarT) (Ap:Option Addr) (cp:Nat) (m:VM) (A:Option Addr) (c:Nat) (w:World) (B:Nat) (P:Nat→Prop) (hB:B≤w.heap.size) (hP:∀ b,P b→b < w.heap.size) (hps:ps.length≤9223372036854775807) (hl:m.len≤9223372036854775807) (htn:∀ x,x ∈ ps→x.tn.size≤9223372036854775807) (hR:RowT w P (rowOf encVar ps) Ap) (hM:MAt w B m A 0) :
  Calls Tryz.prog 211 #[.slice Ap ps.length cp,.slice A m.len c] w fun e w'=>e=.returned (.bool (compB m ps))∧Below w.heap.size w w':=by
 have HB:=Hd hB
 have HP:=Hd hP
 have HR:=Hd hR
 have HTN:=Hd htn
 have G:=Hd (fun (wx:World) (hb:Below w.heap.size w wx) (s:ByteArray)=>pget_any s m A c wx B (Nat.le_trans hB hb.size) hl (MAt.below (hb.mono hB) m A 0 hM))
 clear hB hP hR hM htn hl
 go_enter Tryz.func211,Tryz.ntmps211
 go_wp2_with fail
 go_loopg [11] ps.length (fun gk i wx=>∃ q:Nat,q+gk=ps.length∧i=.int .i64 q∧Aside (compB m (ps.drop q)=compB m ps∧Below w.heap.size w wx))
 case atStart=>exact ⟨0,by omega,rfl,Blk.Aside.intro ⟨rfl,Below.refl _ _⟩⟩
 case round =>
  obtain ⟨q,hq,rfl,HX⟩:=hrel
  obtain ⟨hf,hb⟩:=HX.out
  have HF:=Hd hf
  have HBB:=Hd hb
  clear HX hf hb
  cases gk with
  | zero =>
    obtain rfl:q=ps.length:=by omega
    go_wp2_with fail
    go_ret
    exact ⟨by rw [← HF.out,List.drop_length];rfl,HBB.out⟩
  | succ gg =>
    have hqn:q < ps.length:=by omega
    have hqn':(q:Int) < (ps.length:Int):=by omega
    obtain ⟨x,hx⟩:∃ x,ps[q]? = some x:=⟨_,List.getElem?_eq_getElem hqn⟩
    obtain ⟨b,p,A3,k3,A4,k4,rfl,hb,⟨g0,g1,g2,g3,g4,g5,g6,g7,g8,g9⟩,hs1,hs2⟩:=var_at (RowT.keep (P':=P) (fun b hb=>⟨hb,HBB.out.block b (HP.out b hb)⟩) _ _ HR.out) hx
    have hbl:b < wr.heap.size:=Nat.lt_of_lt_of_le (HP.out b hb) HBB.out.size
    have hK:=Hd (compB_at (m:=m) hx)
    have IS:=Hd (fun wx=>wis_any x.tn x.tl x.tm wx (HTN.out x (List.mem_of_getElem? hx)))
    clear hx hb hs1 hs2
    go_upto_region 4 with fail
    clear g0 g1 g2 g3 g4 g5 g6 g7 g8 g9
    have B2:=Hd (dbelow_new wr (.cells #[.string x.name,.string x.tn,.int .i64 x.tl,.int .i64 x.tm,.bool x.has,.int .i64 x.v.kd,.int .i64 x.v.nn,.string x.v.ss,.slice A3 x.v.ls.len k3,.slice A4 x.v.ms.len k4] 60))
    have Y2:=Hd (heap_alloc_new wr (.cells #[.string x.name,.string x.tn,.int .i64 x.tl,.int .i64 x.tm,.bool x.has,.int .i64 x.v.kd,.int .i64 x.v.nn,.string x.v.ss,.slice A3 x.v.ls.len k3,.slice A4 x.v.ms.len k4] 60))
    generalize wr.alloc (.cells #[.string x.name,.string x.tn,.int .i64 x.tl,.int .i64 x.tm,.bool x.has,.int .i64 x.v.kd,.int .i64 x.v.nn,.string x.v.ss,.slice A3 x.v.ls.len k3,.slice A4 x.v.ms.len k4] 60)=w2 at B2 Y2 ⊢
    obtain ⟨g2,hg2⟩:∃ g,wr.heap.size=g:=⟨_,rfl⟩
    rw [hg2] at Y2 ⊢
    have D2:=Hd (HBB.out.trans (B2.out.mono HBB.out.size))
    obtain ⟨⟨y0,y1,y2,y3,y4,y5,y6,y7,y8,y9⟩,_⟩:=ten_cells Y2.out
    clear hg2 B2
    obtain ⟨nm,tn,tl,tm,hs,v⟩:=x
    dsimp only at *
    cases hs with
    | true =>
      go_wp2_with fail
      go_roundg gg
      case measure=>omega
      case rel=>exact ⟨q+1,by omega,by go_num,Blk.Aside.intro ⟨by rw [← HF.out,hK.out];simp [needB],D2.out⟩⟩
    | false =>
      obtain ⟨ib,hib⟩:∃ t,isB tn.data.toList tl tm=t:=⟨_,rfl⟩
      have HIB:=Hd hib
      rw [hib] at IS
      clear hib
      go_wp2_with fail
      refine (IS.out _).mono ?_
      rintro e w3 ⟨rfl,hb3⟩
      have D3:=Hd (D2.out.trans (hb3.mono D2.out.size))
      have Y3:=(hb3.block g2 (Array.getElem?_eq_some_iff.1 Y2.out).1).trans Y2.out
      clear y0 y1 y2 y3 y4 y5 y6 y7 y8 y9 hb3
      obtain ⟨⟨y0,y1,y2,y3,y4,y5,y6,y7,y8,y9⟩,_⟩:=ten_cells Y3
      clear Y3
      cases ib with
      | false =>
        go_wp2_with fail
        go_roundg gg
        case measure=>omega
        case rel=>exact ⟨q+1,by omega,by go_num,Blk.Aside.intro ⟨by rw [← HF.out,hK.out];simp [needB,HIB.out],D3.out⟩⟩
      | true =>
        go_wp2_with fail
        refine (G.out _ D3.out nm).mono ?_
        rintro e w4 ⟨d0,d1,d2,d3,d4,rfl,hv,hb4⟩
        have D4:=Hd (D3.out.trans (hb4.mono D3.out.size))
        obtain ⟨gv,hgv⟩:∃ t,getM m nm=t:=⟨_,rfl⟩
        rw [hgv] at hv hK ⊢
        obtain ⟨⟨vk,vn,vs,vl,vm⟩,ok⟩:=gv
        unfold VAt at hv
        obtain ⟨rfl,rfl,rfl,_,⟨E3,j3,rfl,_,_⟩,E4,j4,rfl,_,_⟩:=hv
        have HGV:=Hd hgv
        clear hgv hb4 y0 y1 y2 y3 y4 y5 y6 y7 y8 y9
        dsimp only
        go_upto_region 6 with fail
        have D5:=Hd (D4.out.alloc D4.out.size (.cells #[.int .i64 vk,.int .i64 vn,.string vs,.slice E3 vl.len j3,.slice E4 vm.len j4] 58))
        generalize w4.alloc (.cells #[.int .i64 vk,.int .i64 vn,.string vs,.slice E3 vl.len j3,.slice E4 vm.len j4] 58)=w5 at D5 ⊢
        cases ok with
        | false =>
          go_wp2_with fail
          go_ret
          exact ⟨by rw [← HF.out,hK.out];simp [needB,HIB.out],D5.out⟩
        | true =>
          go_wp2_with fail
          go_roundg gg
          case measure=>omega
          case rel=>exact ⟨q+1,by omega,by go_num,Blk.Aside.intro ⟨by rw [← HF.out,hK.out];simp [needB,HIB.out],D5.out⟩⟩
def namedB (D:List DefnT) (n:ByteArray) (v:VT):Bool:=
 if (n.toList == [73,110,116])=true then (v.kd == 2) && (decide (-2147483648≤v.nn) && decide (v.nn≤2147483647)) else
 if (n.toList == [83,116,114,105,110,103])=true then v.kd == 4 else
 if (n.toList == [66,111,111,108,101,97,110])=true then v.kd == 1 else
 if (n.toList == [73,68])=true then (v.kd == 4) || (v.kd == 2) else
 if ((findD D n).1.kind == 4)=true then (v.kd == 5) && hasN (findD D n).1.parts v.ss else
 if ((findD D n).1.kind == 5)=true then (v.kd == 7) && (onceB v.ms.list && (knownB (findD D n).1.params v.ms.list && compB v.ms (findD D n).1.params)) else false
def BoolC (b:Bool) (D:List DefnT) (X:Nat→Prop) (KS:List ByteArray) (M:Nat) (w:World) (e:Ending) (w':World):Prop:=e=.returned (.bool b)∧MoX M w w'∧MOK D X KS M w'
structure NB (w:World) (c0 c1:Obj) (W:World):Prop where
 low:Below w.heap.size w W
 b0:W.heap[w.heap.size]? = some c0
 b1:W.heap[w.heap.size+1]? = some c1
theorem NB.start (w:World) (c0 c1:Obj):NB w c0 c1 ((w.alloc c0).alloc c1):=⟨tbl w _ _,(Below.heap_alloc (w.alloc c0) _ w.heap.size (by simp)).trans (heap_alloc_new w c0),heap_two w _ _⟩
theorem NB.next {w W W':World} {c0 c1:Obj} (h:NB w c0 c1 W) (hb:Below W.heap.size W W'):NB w c0 c1 W':=
 ⟨h.low.trans (hb.mono h.low.size),(hb.block _ (Array.getElem?_eq_some_iff.1 h.b0).1).trans h.b0,(hb.block _ (Array.getElem?_eq_some_iff.1 h.b1).1).trans h.b1⟩
theorem par_tn {w:World} {P:Nat→Prop} {l:List VarT} {A:Option Addr} (h:RowT w P (rowOf encVar l) A):∀ x,x ∈ l→x.tn.size≤9223372036854775807:=fun x hx=>by
 obtain ⟨q,hq⟩:=List.mem_iff_getElem?.1 hx
 obtain ⟨_,_,_,_,_,_,_,_,_,_,h2⟩:=var_at h hq
 exact h2
theorem str_rowP {w:World} {P:Nat→Prop} (hP:∀ b,P b→b < w.heap.size) {l:List ByteArray} {A:Option Addr} (h:RowT w P (rowOf encStr l) A):Blk.StrsAt w w.heap.size A l.length l:=
 str_row (RowT.keep (fun b hb=>⟨hP b hb,rfl⟩) _ _ h)
theorem named_any (S:SchT) (n:ByteArray) (v:VT) (c0 c1 c2:Value) (A3 A4:Option Addr) (k3 k4:Nat) (w:World) (B M:Nat) (X:Nat→Prop) (KS:List ByteArray) (hB:B≤M) (hX:∀ b,X b→b < w.heap.size) (hXM:X M) (hXB:∀ b,b < B→¬ X b) (hK:n ∈ KS) (hKS:KS.length≤maxLen) (hn:n.size≤maxLen) (hz:SlimS S) (hvz:v.ms.len*120≤140737488355328)
  (hS:TS w (fun b=>b < B) (encSch S) [c0,c1,c2]) (hV:TS w (fun b=>b < B) (encV v) [.int .i64 v.kd,.int .i64 v.nn,.string v.ss,.slice A3 v.ls.len k3,.slice A4 v.ms.len k4]) (hO:MOK S.defs X KS M w) :
  Calls Tryz.prog 182 #[.agg #[c0,c1,c2,.map (some M)],.string n,.agg #[.int .i64 v.kd,.int .i64 v.nn,.string v.ss,.slice A3 v.ls.len k3,.slice A4 v.ms.len k4]] w (BoolC (namedB S.defs n v) S.defs X KS M w):=by
 have hMl:=hO.lt
 have hBw:B≤w.heap.size:=by omega
 have F:=Hd (fun (wx:World) (hb:Below w.heap.size w wx)=>cfind_any S n c0 c1 c2 wx B M X KS hB (fun b h=>Nat.lt_of_lt_of_le (hX b h) hb.size) hXM hXB hK hKS hn hz (TS.low (hb.mono hBw) hS) (hO.low hb))
 obtain ⟨A,k,e,_⟩:=sch_cells hS
 injection e with e0 e
 injection e with e1 e
 injection e with e2 e
 subst e0 e1 e2
 obtain ⟨E3,j3,E4,j4,e,hss,⟨hll,hL⟩,hml,hM⟩:=encv_cells hV
 simp only [List.cons.injEq,Value.slice.injEq,and_true,true_and] at e
 obtain ⟨⟨rfl,rfl⟩,rfl,rfl⟩:=e
 have HM:=Hd hM
 have HO:=Hd hO
 have HVZ:=Hd hvz
 have HXX:=Hd (And.intro hX (And.intro hXM hXB))
 have N0:=Hd (NB.start w (.cells #[.slice A S.defs.length k,.string S.query,.string S.mutation,.map (some M)] 157) (.cells #[.int .i64 v.kd,.int .i64 v.nn,.string v.ss,.slice A3 v.ls.len k3,.slice A4 v.ms.len k4] 58))
 obtain ⟨r,hr⟩:∃ r,namedB S.defs n v=r:=⟨_,rfl⟩
 rw [hr]
 have he:=hr.symm
 unfold namedB at he
 have HE:=Hd he
 clear he hr
 clear hS hz hV hO hL hll hM hX hXM hXB hK hKS hn hvz
 obtain ⟨t0,h0⟩:∃ b,(n.toList == [73,110,116])=b:=⟨_,rfl⟩
 obtain ⟨t1,h1⟩:∃ b,(n.toList == [83,116,114,105,110,103])=b:=⟨_,rfl⟩
 obtain ⟨t2,h2⟩:∃ b,(n.toList == [66,111,111,108,101,97,110])=b:=⟨_,rfl⟩
 obtain ⟨t3,h3⟩:∃ b,(n.toList == [73,68])=b:=⟨_,rfl⟩
 rw [h0,h1,h2,h3] at HE
 cases t0
 case true =>
  rw [if_pos (by simp)] at HE
  obtain ⟨b1,g1⟩:∃ b,(v.kd == 2)=b:=⟨_,rfl⟩
  obtain ⟨b2,g2⟩:∃ b,decide (-2147483648≤v.nn)=b:=⟨_,rfl⟩
  obtain ⟨b3,g3⟩:∃ b,decide (v.nn≤2147483647)=b:=⟨_,rfl⟩
  rw [g1,g2,g3] at HE
  cases b1
  case false =>
   go_enter Tryz.func182,Tryz.ntmps182
   go_upto_region 1 with fail
   generalize (w.alloc (.cells #[.slice A S.defs.length k,.string S.query,.string S.mutation,.map (some M)] 157)).alloc (.cells #[.int .i64 v.kd,.int .i64 v.nn,.string v.ss,.slice A3 v.ls.len k3,.slice A4 v.ms.len k4] 58)=w1 at N0 ⊢
   obtain ⟨y0,y1,y2,y3,y4⟩:=five_at N0.out.b1
   go_wp2_with fail
   go_ret
   exact ⟨by rw [HE.out];rfl,MoX.of_below N0.out.low,HO.out.low N0.out.low⟩
  case true =>
   cases b2
   case false =>
     have g2' : ¬ (-2147483648≤v.nn):=of_decide_eq_false g2
     go_enter Tryz.func182,Tryz.ntmps182
     go_upto_region 1 with fail
     generalize (w.alloc (.cells #[.slice A S.defs.length k,.string S.query,.string S.mutation,.map (some M)] 157)).alloc (.cells #[.int .i64 v.kd,.int .i64 v.nn,.string v.ss,.slice A3 v.ls.len k3,.slice A4 v.ms.len k4] 58)=w1 at N0 ⊢
     obtain ⟨y0,y1,y2,y3,y4⟩:=five_at N0.out.b1
     go_wp2_with fail
     go_ret
     exact ⟨by rw [HE.out];rfl,MoX.of_below N0.out.low,HO.out.low N0.out.low⟩
   case true =>
     have g2' : -2147483648≤v.nn:=of_decide_eq_true g2
     cases b3
     case false =>
       have g3' : ¬ (v.nn≤2147483647):=of_decide_eq_false g3
       go_enter Tryz.func182,Tryz.ntmps182
       go_upto_region 1 with fail
       generalize (w.alloc (.cells #[.slice A S.defs.length k,.string S.query,.string S.mutation,.map (some M)] 157)).alloc (.cells #[.int .i64 v.kd,.int .i64 v.nn,.string v.ss,.slice A3 v.ls.len k3,.slice A4 v.ms.len k4] 58)=w1 at N0 ⊢
       obtain ⟨y0,y1,y2,y3,y4⟩:=five_at N0.out.b1
       go_wp2_with fail
       go_ret
       exact ⟨by rw [HE.out];rfl,MoX.of_below N0.out.low,HO.out.low N0.out.low⟩
     case true =>
       have g3':v.nn≤2147483647:=of_decide_eq_true g3
       go_enter Tryz.func182,Tryz.ntmps182
       go_upto_region 1 with fail
       generalize (w.alloc (.cells #[.slice A S.defs.length k,.string S.query,.string S.mutation,.map (some M)] 157)).alloc (.cells #[.int .i64 v.kd,.int .i64 v.nn,.string v.ss,.slice A3 v.ls.len k3,.slice A4 v.ms.len k4] 58)=w1 at N0 ⊢
       obtain ⟨y0,y1,y2,y3,y4⟩:=five_at N0.out.b1
       go_wp2_with fail
       go_ret
       exact ⟨by rw [HE.out];rfl,MoX.of_below N0.out.low,HO.out.low N0.out.low⟩
 rw [if_neg (by simp)] at HE
 cases t1
 case true =>
  rw [if_pos (by simp)] at HE
  go_enter Tryz.func182,Tryz.ntmps182
  go_upto_region 1 with fail
  generalize (w.alloc (.cells #[.slice A S.defs.length k,.string S.query,.string S.mutation,.map (some M)] 157)).alloc (.cells #[.int .i64 v.kd,.int .i64 v.nn,.string v.ss,.slice A3 v.ls.len k3,.slice A4 v.ms.len k4] 58)=w1 at N0 ⊢
  obtain ⟨y0,y1,y2,y3,y4⟩:=five_at N0.out.b1
  go_wp2_with fail
  go_ret
  exact ⟨by rw [HE.out];rfl,MoX.of_below N0.out.low,HO.out.low N0.out.low⟩
 rw [if_neg (by simp)] at HE
 cases t2
 case true =>
  rw [if_pos (by simp)] at HE
  go_enter Tryz.func182,Tryz.ntmps182
  go_upto_region 1 with fail
  generalize (w.alloc (.cells #[.slice A S.defs.length k,.string S.query,.string S.mutation,.map (some M)] 157)).alloc (.cells #[.int .i64 v.kd,.int .i64 v.nn,.string v.ss,.slice A3 v.ls.len k3,.slice A4 v.ms.len k4] 58)=w1 at N0 ⊢
  obtain ⟨y0,y1,y2,y3,y4⟩:=five_at N0.out.b1
  go_wp2_with fail
  go_ret
  exact ⟨by rw [HE.out];rfl,MoX.of_below N0.out.low,HO.out.low N0.out.low⟩
 rw [if_neg (by simp)] at HE
 cases t3
 case true =>
  rw [if_pos (by simp)] at HE
  obtain ⟨b1,g1⟩:∃ b,(v.kd == 4)=b:=⟨_,rfl⟩
  rw [g1] at HE
  cases b1
  case false =>
   go_enter Tryz.func182,Tryz.ntmps182
   go_upto_region 1 with fail
   generalize (w.alloc (.cells #[.slice A S.defs.length k,.string S.query,.string S.mutation,.map (some M)] 157)).alloc (.cells #[.int .i64 v.kd,.int .i64 v.nn,.string v.ss,.slice A3 v.ls.len k3,.slice A4 v.ms.len k4] 58)=w1 at N0 ⊢
   obtain ⟨y0,y1,y2,y3,y4⟩:=five_at N0.out.b1
   go_wp2_with fail
   go_ret
   exact ⟨by rw [HE.out];rfl,MoX.of_below N0.out.low,HO.out.low N0.out.low⟩
  case true =>
   go_enter Tryz.func182,Tryz.ntmps182
   go_upto_region 1 with fail
   generalize (w.alloc (.cells #[.slice A S.defs.length k,.string S.query,.string S.mutation,.map (some M)] 157)).alloc (.cells #[.int .i64 v.kd,.int .i64 v.nn,.string v.ss,.slice A3 v.ls.len k3,.slice A4 v.ms.len k4] 58)=w1 at N0 ⊢
   obtain ⟨y0,y1,y2,y3,y4⟩:=five_at N0.out.b1
   go_wp2_with fail
   go_ret
   exact ⟨by rw [HE.out];rfl,MoX.of_below N0.out.low,HO.out.low N0.out.low⟩
 rw [if_neg (by simp)] at HE
 generalize hd:(findD S.defs n).1=d at HE
 have FF:=Hd (fun (wx:World) (hb:Below w.heap.size w wx)=>F.out wx hb)
 unfold FoundC at FF
 rw [hd] at FF
 clear F
 go_enter Tryz.func182,Tryz.ntmps182
 go_upto_region 1 with fail
 generalize (w.alloc (.cells #[.slice A S.defs.length k,.string S.query,.string S.mutation,.map (some M)] 157)).alloc (.cells #[.int .i64 v.kd,.int .i64 v.nn,.string v.ss,.slice A3 v.ls.len k3,.slice A4 v.ms.len k4] 58)=w1 at N0 ⊢
 obtain ⟨y0,y1,y2,y3,y4⟩:=five_at N0.out.b1
 obtain ⟨x0,x1,x2,x3⟩:=four_cells N0.out.b0
 go_wp2_with fail
 refine (FF.out _ N0.out.low).mono ?_
 rintro e w2 ⟨d0,d1,d2,d3,d4,d5,rfl,hT,hmo,hok⟩
 obtain ⟨Df,q0,Dx,q1,Dp,q2,Dm,q3,e,_,_,_,⟨lp,hp⟩,lm,hm⟩:=defn_cells hT
 simp only [List.cons.injEq,and_true] at e
 obtain ⟨rfl,rfl,rfl,rfl,rfl,rfl⟩:=e
 have hw1:=N0.out.low.size
 have hlt1:=(Array.getElem?_eq_some_iff.1 N0.out.b1).1
 have Y2:=(hmo.block (w.heap.size+1) hlt1 (by omega)).trans N0.out.b1
 have HP:=Hd hp
 have HMM:=Hd hm
 have HLL:=Hd (And.intro lp lm)
 have M2:=Hd ((MoX.of_below N0.out.low).trans hmo)
 have O2:=Hd hok
 clear hT hp hm hmo hok FF x0 x1 x2 x3 y0 y1 y2 y3 y4 lp lm
 go_upto_region 11 with fail
 have B3:=Hd (dbelow_new w2 (.cells #[.int .i64 d.kind,.string d.name,.slice Df d.faces.length q0,.slice Dx d.fields.length q1,.slice Dp d.parts.length q2,.slice Dm d.params.length q3] 37))
 have Y3:=(Below.heap_alloc w2 (.cells #[.int .i64 d.kind,.string d.name,.slice Df d.faces.length q0,.slice Dx d.fields.length q1,.slice Dp d.parts.length q2,.slice Dm d.params.length q3] 37) (w.heap.size+1) (Array.getElem?_eq_some_iff.1 Y2).1).trans Y2
 have Z3:=heap_alloc_new w2 (.cells #[.int .i64 d.kind,.string d.name,.slice Df d.faces.length q0,.slice Dx d.fields.length q1,.slice Dp d.parts.length q2,.slice Dm d.params.length q3] 37)
 generalize w2.alloc (.cells #[.int .i64 d.kind,.string d.name,.slice Df d.faces.length q0,.slice Dx d.fields.length q1,.slice Dp d.parts.length q2,.slice Dm d.params.length q3] 37)=w3 at B3 Y3 Z3 ⊢
 have P3:=Hd (fun (wx:World) (hb:Below w3.heap.size w3 wx)=>RowT.keep (P':=fun b=>b < w2.heap.size) (fun b h=>⟨h.1,(hb.block b (Nat.lt_of_lt_of_le h.1 B3.out.size)).trans (B3.out.block b h.1)⟩) _ _ HP.out)
 have Q3:=Hd (fun (wx:World) (hb:Below w3.heap.size w3 wx)=>RowT.keep (P':=fun b=>b < w2.heap.size) (fun b h=>⟨h.1,(hb.block b (Nat.lt_of_lt_of_le h.1 B3.out.size)).trans (B3.out.block b h.1)⟩) _ _ HMM.out)
 have hs2:=M2.out.size
 have V3:=Hd (fun (wx:World) (hb:Below w3.heap.size w3 wx)=>RowT.below ((M2.out.below hB hBw).trans ((B3.out.trans (hb.mono B3.out.size)).mono (Nat.le_trans hBw hs2))) HM.out)
 have M3:=Hd (M2.out.trans (MoX.of_below B3.out))
 have O3:=Hd (O2.out.low B3.out)
 have hgw:=B3.out.size
 generalize w2.heap.size=g2 at *
 obtain ⟨⟨z0,z1,z2,z3,z4,z5⟩,_⟩:=six_cells Z3
 obtain ⟨y0,y1,y2,y3,y4⟩:=five_at Y3
 obtain ⟨e4,h4⟩:∃ b,(d.kind == 4)=b:=⟨_,rfl⟩
 obtain ⟨e5,h5⟩:∃ b,(d.kind == 5)=b:=⟨_,rfl⟩
 rw [h4,h5] at HE
 cases e4
 case true =>
  rw [if_pos (by simp)] at HE
  clear h5
  obtain ⟨b1,g1⟩:∃ b,(v.kd == 5)=b:=⟨_,rfl⟩
  rw [g1] at HE
  cases b1
  case false =>
   go_wp2_with fail
   go_ret
   exact ⟨by rw [HE.out];rfl,M3.out,O3.out⟩
  case true =>
   have CT:=Hd (contains_s Dp d.parts.length q2 d.parts v.ss w3 HLL.out.1 (str_rowP (fun b h=>Nat.lt_of_lt_of_le h hgw) (P3.out _ (Below.refl _ _))))
   generalize hasN d.parts v.ss=hb at CT HE
   go_wp2_with fail
   refine CT.out.mono ?_
   rintro e w4 ⟨rfl,hb4⟩
   have B4:=Hd hb4
   clear hb4 CT z0 z1 z2 z3 z4 z5 y0 y1 y2 y3 y4
   go_wp2_with fail
   go_ret
   exact ⟨by rw [HE.out];rfl,M3.out.trans (MoX.of_below B4.out),O3.out.low B4.out⟩
 rw [if_neg (by simp)] at HE
 cases e5
 case false =>
  rw [if_neg (by simp)] at HE
  go_wp2_with fail
  go_ret
  exact ⟨by rw [HE.out];rfl,M3.out,O3.out⟩
 case true =>
  rw [if_pos (by simp)] at HE
  obtain ⟨b1,g1⟩:∃ b,(v.kd == 7)=b:=⟨_,rfl⟩
  rw [g1] at HE
  cases b1
  case false =>
   go_wp2_with fail
   go_ret
   exact ⟨by rw [HE.out];rfl,M3.out,O3.out⟩
  case true =>
   have hBs:B≤w3.heap.size:=Nat.le_trans hBw (Nat.le_trans hs2 hgw)
   have hml2:v.ms.list.length=v.ms.len:=VM.list_len _
   have ON:=Hd (lonce_any v.ms.list A4 k4 w3 B hBs (by have:=HVZ.out;rw [hml2];unfold maxLen;omega) (by rw [← encM_list];exact V3.out _ (Below.refl _ _)))
   have KN:=Hd (fun (wx:World) (hb:Below w3.heap.size w3 wx)=>known_any d.params Dm q3 v.ms.list A4 k4 wx B (fun b=>b < g2) (Nat.le_trans hBs hb.size) (fun b h=>Nat.lt_of_lt_of_le h (Nat.le_trans hgw hb.size)) HLL.out.2 (by rw [hml2];exact hml) (Q3.out _ hb) (by rw [← encM_list];exact V3.out _ hb))
   have CP:=Hd (fun (wx:World) (hb:Below w3.heap.size w3 wx)=>complete_any d.params Dm q3 v.ms A4 k4 wx B (fun b=>b < g2) (Nat.le_trans hBs hb.size) (fun b h=>Nat.lt_of_lt_of_le h (Nat.le_trans hgw hb.size)) HLL.out.2 hml (par_tn HMM.out) (Q3.out _ hb) (mat_of (V3.out _ hb)))
   rw [hml2] at ON KN
   generalize onceB v.ms.list=o1 at ON HE
   generalize knownB d.params v.ms.list=o2 at KN HE
   generalize compB v.ms d.params=o3 at CP HE
   clear hml2
   go_wp2_with fail
   refine ON.out.mono ?_
   rintro e w4 ⟨rfl,hb4⟩
   have B4:=Hd hb4
   have Z4:=(hb4.block g2 (Array.getElem?_eq_some_iff.1 Z3).1).trans Z3
   have Y4:=(hb4.block (w.heap.size+1) (Array.getElem?_eq_some_iff.1 Y3).1).trans Y3
   clear hb4 ON z0 z1 z2 z3 z4 z5 y0 y1 y2 y3 y4 Z3 Y3
   obtain ⟨⟨z0,z1,z2,z3,z4,z5⟩,_⟩:=six_cells Z4
   obtain ⟨y0,y1,y2,y3,y4⟩:=five_at Y4
   cases o1 with
   | false =>
     go_wp2_with fail
     go_ret
     exact ⟨by rw [HE.out];rfl,M3.out.trans (MoX.of_below B4.out),O3.out.low B4.out⟩
   | true =>
     go_wp2_with fail
     refine (KN.out _ B4.out).mono ?_
     rintro e w5 ⟨rfl,hb5⟩
     have B5:=Hd (B4.out.trans (hb5.mono B4.out.size))
     have Z5:=(hb5.block g2 (Array.getElem?_eq_some_iff.1 Z4).1).trans Z4
     have Y5:=(hb5.block (w.heap.size+1) (Array.getElem?_eq_some_iff.1 Y4).1).trans Y4
     clear hb5 KN z0 z1 z2 z3 z4 z5 y0 y1 y2 y3 y4 Z4 Y4
     obtain ⟨⟨z0,z1,z2,z3,z4,z5⟩,_⟩:=six_cells Z5
     obtain ⟨y0,y1,y2,y3,y4⟩:=five_at Y5
     cases o2 with
     | false =>
       go_wp2_with fail
       go_ret
       exact ⟨by rw [HE.out];rfl,M3.out.trans (MoX.of_below B5.out),O3.out.low B5.out⟩
     | true =>
       go_wp2_with fail
       refine (CP.out _ B5.out).mono ?_
       rintro e w6 ⟨rfl,hb6⟩
       have B6:=Hd (B5.out.trans (hb6.mono B5.out.size))
       clear hb6 CP z0 z1 z2 z3 z4 z5 y0 y1 y2 y3 y4 Z5 Y5
       go_wp2_with fail
       go_ret
       exact ⟨by rw [HE.out];rfl,M3.out.trans (MoX.of_below B6.out),O3.out.low B6.out⟩
end Go.Proofs.YtaekdfcpbepepaaGreatDoor
