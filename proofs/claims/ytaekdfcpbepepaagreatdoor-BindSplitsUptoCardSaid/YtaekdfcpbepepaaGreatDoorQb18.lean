/- The walks of value.Good and value.Plain. -/
import Derived.Test.YtaekdfcpbepepaaGreatDoorQb17
set_option maxRecDepth 100000
set_option maxHeartbeats 8000000
namespace Go.Proofs.YtaekdfcpbepepaaGreatDoor
open Go.RowKit
theorem test_good:TestC 177 goodB:=
 ⟨Go.Proofs.enters_of Tryz.func177 (by kernel_rfl) rfl,fun s w hs hw=>good_any s w hs hw.1⟩
theorem test_name:TestC 17 nameB:=
 ⟨Go.Proofs.enters_of Tryz.func17 (by kernel_rfl) rfl,fun s w hs _=>(name_any s w (by omega)).mono (by rintro e w' ⟨he,rfl⟩;exact ⟨he,Below.refl _ _⟩)⟩
def plainB (v:VT):Bool:=fitV nameB v && decide (depV v≤16)
theorem vgood_any (v:VT) (hz:sizeV v≤1100000) (c0 c1 c2 c3 c4:Value) (w:World) (B:Nat) (hB:B≤w.heap.size) (hv:VAt w B v c0 c1 c2 c3 c4) (hw:Laid5 w) :
  Calls Tryz.prog 155 #[.agg #[c0,c1,c2,c3,c4]] w fun e w'=>e=.returned (.bool (fitV goodB v))∧Below w.heap.size w w':=by
 obtain ⟨k,n,s,l,m⟩:=v
 generalize hU:VT.mk k n s l m=U at *
 have HV:=Hd hv
 rw [← hU] at hv
 unfold VAt at hv
 obtain ⟨rfl,rfl,rfl,_,⟨A,c,rfl,hl,hL⟩,A',c',rfl,hm,hM⟩:=hv
 have hb1:=Hd ((Below.refl w.heap.size w).alloc (Nat.le_refl _) (.cells #[.int .i64 k,.int .i64 n,.string s,.slice A l.len c,.slice A' m.len c'] 58))
 have HF:=Hd (vfits_any _ _ test_good U hz _ _ _ _ _ _ B (Nat.le_trans hB hb1.out.size) (VAt.below (hb1.out.mono hB) _ _ _ _ _ _ HV.out) (hw.below hb1.out))
 clear hL hM hU hw hz
 go_enter Tryz.func155,Tryz.ntmps155
 go_wp2_with fail
 refine HF.out.mono ?_
 rintro e w2 ⟨rfl,hb2⟩
 have HB2:=Hd (hb1.out.trans (hb2.mono hb1.out.size))
 clear hb2
 go_wp2_with fail
 go_ret
 exact ⟨rfl,HB2.out⟩
theorem vplain_any (v:VT) (hz:sizeV v≤1100000) (c0 c1 c2 c3 c4:Value) (w:World) (B:Nat) (hB:B≤w.heap.size) (hv:VAt w B v c0 c1 c2 c3 c4) (hw:Laid5 w) :
   Calls Tryz.prog 221 #[.agg #[c0,c1,c2,c3,c4]] w fun e w'=>e=.returned (.bool (plainB v))∧Below w.heap.size w w':=by
 have hD:=depth_any v hz
 obtain ⟨k,n,s,l,m⟩:=v
 generalize hU:VT.mk k n s l m=U at *
 have HV:=Hd hv
 rw [← hU] at hv
 unfold VAt at hv
 obtain ⟨rfl,rfl,rfl,_,⟨A,c,rfl,hl,hL⟩,A',c',rfl,hm,hM⟩:=hv
 have hb1:=Hd ((Below.refl w.heap.size w).alloc (Nat.le_refl _) (.cells #[.int .i64 k,.int .i64 n,.string s,.slice A l.len c,.slice A' m.len c'] 58))
 have HF:=Hd (vfits_any _ _ test_name U hz _ _ _ _ _ _ B (Nat.le_trans hB hb1.out.size) (VAt.below (hb1.out.mono hB) _ _ _ _ _ _ HV.out) (hw.below hb1.out))
 have HDD:=Hd hD
 have HB0:=Hd hB
 have hF5:=Hd (five_at_new w (.int .i64 k) (.int .i64 n) (.string s) (.slice A l.len c) (.slice A' m.len c') 58 rfl)
 have hsw:Hid ((w.alloc (.cells #[.int .i64 k,.int .i64 n,.string s,.slice A l.len c,.slice A' m.len c'] 58)).heap.size=w.heap.size+1):=Hd (by simp)
 have hpl:Hid (plainB U=(fitV nameB U && decide (depV U≤16))):=Hd rfl
 have hdz:=Hd (Nat.le_trans (dep_size U) hz)
 clear hL hM hU hw hz hD hB
 cases hf:fitV nameB U with
 | false =>
   rw [hf] at HF hpl
   clear hf
   go_enter Tryz.func221,Tryz.ntmps221
   go_wp2_with fail
   refine HF.out.mono ?_
   rintro e w2 ⟨rfl,hb2⟩
   have HB2:=Hd (hb1.out.trans (hb2.mono hb1.out.size))
   clear hb2
   go_wp2_with fail
   go_ret
   exact ⟨ret_bool (by rw [hpl.out];rfl),HB2.out⟩
 | true =>
   rw [hf] at HF hpl
   clear hf
   go_enter Tryz.func221,Tryz.ntmps221
   go_wp2_with fail
   refine HF.out.mono ?_
   rintro e w2 ⟨rfl,hb2⟩
   have hb3:=hb1.out.trans (hb2.mono hb1.out.size)
   have HB2:=Hd hb3
   have hs2:=hb3.size
   obtain ⟨e0,e1,e2,e3,e4⟩:=hF5.out.below hb2 (by rw [hsw.out];omega)
   clear hb2 hb3
   go_wp2_with fail
   refine (HDD.out _ _ _ _ _ _ B (Nat.le_trans HB0.out hs2) (VAt.below (HB2.out.mono HB0.out) _ _ _ _ _ _ HV.out)).mono ?_
   rintro e w3 ⟨rfl,hb4⟩
   have HB3:=Hd (HB2.out.trans (hb4.mono hs2))
   clear hb4 e0 e1 e2 e3 e4
   obtain ⟨d,hd⟩:∃ d,depV U=d:=⟨_,rfl⟩
   rw [hd] at hpl hdz ⊢
   clear hd
   by_cases h16:d≤16
   · have h16':(d:Int)≤16:=by omega
     have hr:Hid (plainB U=true):=Hd (by rw [hpl.out];simpa using h16)
     go_wp2_with fail
     go_ret
     exact ⟨ret_bool (by rw [hr.out];first|rfl|(simp;done)|(simp;omega)|skip),HB3.out⟩
   · have h16' : ¬ (d:Int)≤16:=by omega
     have hr:Hid (plainB U=false):=Hd (by rw [hpl.out];simpa using h16)
     go_wp2_with fail
     go_ret
     exact ⟨ret_bool (by rw [hr.out];first|rfl|(simp;done)|(simp;omega)|skip),HB3.out⟩
def aloneB (v:VT):Bool:=(v.kd != 6) && ((v.kd != 8) && (v.kd != 0))
theorem alone_any (v:VT) (c1 c2 c3 c4:Value) (w:World) :
  Calls Tryz.prog 208 #[.agg #[.int .i64 v.kd,c1,c2,c3,c4]] w fun e w'=>e=.returned (.bool (aloneB v))∧Below w.heap.size w w':=by
 have B0:=Hd (dbelow_new w (.cells #[.int .i64 v.kd,c1,c2,c3,c4] 58))
 have X0:=heap_alloc_new w (.cells #[.int .i64 v.kd,c1,c2,c3,c4] 58)
 obtain ⟨y0,y1,y2,y3,y4⟩:=five_at X0
 have HE:Hid (aloneB v=((v.kd != 6) && ((v.kd != 8) && (v.kd != 0)))):=Hd rfl
 clear X0
 obtain ⟨b6,h6⟩:∃ b,(v.kd != 6)=b:=⟨_,rfl⟩
 obtain ⟨b8,h8⟩:∃ b,(v.kd != 8)=b:=⟨_,rfl⟩
 obtain ⟨b0,h0⟩:∃ b,(v.kd != 0)=b:=⟨_,rfl⟩
 rw [h6,h8,h0] at HE
 cases b6
 case false =>
  go_enter Tryz.func208,Tryz.ntmps208
  go_wp2_with fail
  go_ret
  exact ⟨by rw [HE.out];rfl,B0.out⟩
 case true =>
  cases b8
  case false =>
   go_enter Tryz.func208,Tryz.ntmps208
   go_wp2_with fail
   go_ret
   exact ⟨by rw [HE.out];rfl,B0.out⟩
  case true =>
   go_enter Tryz.func208,Tryz.ntmps208
   go_wp2_with fail
   go_ret
   exact ⟨by rw [HE.out];rfl,B0.out⟩
theorem aidx_any (vs:List VT) (A:Option Addr) (c:Nat) (w:World) (B:Nat) (hB:B≤w.heap.size) (hl:vs.length≤9223372036854775807) (hR:RowT w (fun b=>b < B) (rowOf encV vs) A) :
  Calls Tryz.prog 231 #[.slice A vs.length c,.func (.func 208) #[] #[]] w fun e w'=>∃ z:Int,e=.returned (.int .i64 z)∧decide (0≤z)=vs.any aloneB∧Below w.heap.size w w':=by
 have HR:=Hd hR
 have HB:=Hd hB
 clear hR hB
 go_enter Tryz.func231,Tryz.ntmps231
 go_wp2_with fail
 go_loopg [5,8] vs.length (fun gk _ i wx=>∃ q:Nat,q+gk=vs.length∧i=.int .i64 q∧Aside ((vs.drop q).any aloneB=vs.any aloneB∧Below w.heap.size w wx))
 case atStart=>exact ⟨0,by omega,rfl,Blk.Aside.intro ⟨rfl,Below.refl _ _⟩⟩
 case round =>
  obtain ⟨q,hq,rfl,HX⟩:=hrel
  obtain ⟨hf,hb⟩:=HX.out
  have HF:=Hd hf
  have HBB:=Hd hb
  clear HX hf hb
  cases gk with
  | zero =>
    obtain rfl:q=vs.length:=by omega
    go_wp2_with fail
    go_ret
    exact ⟨-1,rfl,by rw [← HF.out,List.drop_length];rfl,HBB.out⟩
  | succ gg =>
    have hqn:q < vs.length:=by omega
    have hqn':(q:Int) < (vs.length:Int):=by omega
    obtain ⟨x,hx⟩:∃ x,vs[q]? = some x:=⟨_,List.getElem?_eq_getElem hqn⟩
    obtain ⟨b,p,A3,k3,A4,k4,rfl,hb,⟨g0,g1,g2,g3,g4⟩,_⟩:=val_at (RowT.below (HBB.out.mono HB.out) HR.out) hx
    have hbl:b < wr.heap.size:=Nat.lt_of_lt_of_le hb (Nat.le_trans HB.out HBB.out.size)
    have hK:Hid ((vs.drop q).any aloneB=(aloneB x || (vs.drop (q+1)).any aloneB)):=Hd (by
      have e:vs[q]=x:=(List.getElem?_eq_some_iff.1 hx).2
      rw [List.drop_eq_getElem_cons hqn,e,List.any_cons])
    have AL:=Hd (alone_any x (.int .i64 x.nn) (.string x.ss) (.slice A3 x.ls.len k3) (.slice A4 x.ms.len k4) wr)
    generalize aloneB x=ab at hK AL
    clear hx hb
    go_wp2_with fail
    refine AL.out.mono ?_
    rintro e w2 ⟨rfl,hb2⟩
    have D2:=Hd (HBB.out.trans (hb2.mono HBB.out.size))
    clear hb2 g0 g1 g2 g3 g4 AL
    cases ab with
    | true =>
      go_wp2_with fail
      go_ret
      exact ⟨(q:Int),rfl,by rw [← HF.out,hK.out];simp,D2.out⟩
    | false =>
      go_wp2_with fail
      go_roundg gg
      case measure=>omega
      case rel=>exact ⟨q+1,by omega,by go_num,Blk.Aside.intro ⟨by rw [← HF.out,hK.out];rfl,D2.out⟩⟩
theorem acont_any (vs:List VT) (A:Option Addr) (c:Nat) (w:World) (B:Nat) (hB:B≤w.heap.size) (hl:vs.length≤9223372036854775807) (hR:RowT w (fun b=>b < B) (rowOf encV vs) A) :
  Calls Tryz.prog 207 #[.slice A vs.length c,.func (.func 208) #[] #[]] w fun e w'=>e=.returned (.bool (vs.any aloneB))∧Below w.heap.size w w':=by
 have I:=Hd (aidx_any vs A c w B hB hl hR)
 clear hB hl hR
 go_enter Tryz.func207,Tryz.ntmps207
 go_wp2_with fail
 refine I.out.mono ?_
 rintro e w2 ⟨z,rfl,hz,hb2⟩
 have D2:=Hd hb2
 have HZ:=Hd hz
 clear hb2 hz I
 go_wp2_with fail
 go_ret
 exact ⟨by rw [← HZ.out];rfl,D2.out⟩
def mayB (n:ByteArray) (l m:Int) (vs:List VT):Bool:=!itemB n l m || !vs.any aloneB
theorem maybe_any (n:ByteArray) (l m:Int) (vs:List VT) (A:Option Addr) (c:Nat) (w:World) (B:Nat) (hn:n.size≤9223372036854775807) (hB:B≤w.heap.size) (hl:vs.length≤9223372036854775807) (hR:RowT w (fun b=>b < B) (rowOf encV vs) A) :
   Calls Tryz.prog 181 #[.agg #[.string n,.int .i64 l,.int .i64 m],.slice A vs.length c] w fun e w'=>e=.returned (.bool (mayB n l m vs))∧Below w.heap.size w w':=by
 have C:=Hd (fun (wx:World) (hb:Below w.heap.size w wx)=>acont_any vs A c wx B (Nat.le_trans hB hb.size) hl (RowT.below (hb.mono hB) hR))
 have IT:=Hd (fun (wx:World)=>item_any n l m wx hn)
 rw [itemV_eq] at IT
 have HE:Hid (mayB n l m vs=(!itemB n l m || !vs.any aloneB)):=Hd rfl
 have B0:=Hd (dbelow_new w (.cells #[.string n,.int .i64 l,.int .i64 m] 43))
 have X0:=heap_alloc_new w (.cells #[.string n,.int .i64 l,.int .i64 m] 43)
 obtain ⟨x0,x1,x2⟩:=three_cells X0
 clear X0 hB hl hR hn
 generalize itemB n l m=ib at IT HE
 generalize vs.any aloneB=ab at C HE
 cases ib with
 | false =>
   rw [if_neg (by simp)] at IT
   unfold noT at IT
   go_enter Tryz.func181,Tryz.ntmps181
   go_wp2_with fail
   refine (IT.out _).mono ?_
   rintro e w2 ⟨rfl,hb2⟩
   have D2:=Hd ((B0.out.trans (hb2.mono B0.out.size)).alloc (Nat.le_trans B0.out.size hb2.size) (.cells #[.string ⟨#[]⟩,.int .i64 0,.int .i64 0] 43))
   clear hb2 x0 x1 x2
   go_upto_region 2 with fail
   generalize w2.alloc (.cells #[.string ⟨#[]⟩,.int .i64 0,.int .i64 0] 43)=w3 at D2 ⊢
   go_wp2_with fail
   go_ret
   exact ⟨by rw [HE.out];rfl,D2.out⟩
 | true =>
   rw [if_pos rfl] at IT
   unfold yesT at IT
   go_enter Tryz.func181,Tryz.ntmps181
   go_wp2_with fail
   refine (IT.out _).mono ?_
   rintro e w2 ⟨rfl,hb2⟩
   have D2:=Hd ((B0.out.trans (hb2.mono B0.out.size)).alloc (Nat.le_trans B0.out.size hb2.size) (.cells #[.string n,.int .i64 (l - 1),.int .i64 (m / 2)] 43))
   clear hb2 x0 x1 x2
   go_upto_region 2 with fail
   generalize w2.alloc (.cells #[.string n,.int .i64 (l - 1),.int .i64 (m / 2)] 43)=w3 at D2 ⊢
   go_wp2_with fail
   refine (C.out _ D2.out).mono ?_
   rintro e w4 ⟨rfl,hb4⟩
   have D4:=Hd (D2.out.trans (hb4.mono D2.out.size))
   clear hb4
   go_wp2_with fail
   go_ret
   exact ⟨by rw [HE.out];rfl,D4.out⟩
def fitsB (D:List DefnT) (n:ByteArray) (l m:Int) (v:VT):Bool:=
 if rightT n.data.toList l m=true then (
  if (v.kd == 8)=true then true else
  if (v.kd == 0)=true then !isB n.data.toList l m else
  if itemB n l m=true then (if (v.kd == 6)=true then mayB n (l - 1) (m / 2) v.ls.list else true) else namedB D n v) else false
theorem fits_any (S:SchT) (n:ByteArray) (l m:Int) (hs:Bool) (v:VT) (c0 c1 c2:Value) (A3 A4:Option Addr) (k3 k4:Nat) (w:World) (B M:Nat) (X:Nat→Prop) (KS:List ByteArray) (hB:B≤M) (hX:∀ b,X b→b < w.heap.size) (hXM:X M) (hXB:∀ b,b < B→¬ X b) (hK:n ∈ KS) (hKS:KS.length≤maxLen) (hn:n.size≤maxLen) (hz:SlimS S) (hvz:v.ms.len*120≤140737488355328) (_hvl:v.ls.len*80≤140737488355328)
  (hS:TS w (fun b=>b < B) (encSch S) [c0,c1,c2]) (hV:TS w (fun b=>b < B) (encV v) [.int .i64 v.kd,.int .i64 v.nn,.string v.ss,.slice A3 v.ls.len k3,.slice A4 v.ms.len k4]) (hO:MOK S.defs X KS M w) :
  Calls Tryz.prog 158 #[.agg #[c0,c1,c2,.map (some M)],.agg #[.string n,.int .i64 l,.int .i64 m,.bool hs,.int .i64 v.kd,.int .i64 v.nn,.string v.ss,.slice A3 v.ls.len k3,.slice A4 v.ms.len k4]] w (BoolC (fitsB S.defs n l m v) S.defs X KS M w):=by
 have hMl:=hO.lt
 have hBw:B≤w.heap.size:=by omega
 have hn':n.size≤9223372036854775807:=by unfold maxLen at hn;omega
 have NA:=Hd (fun (wx:World) (hb:Below w.heap.size w wx)=>named_any S n v c0 c1 c2 A3 A4 k3 k4 wx B M X KS hB (fun b h=>Nat.lt_of_lt_of_le (hX b h) hb.size) hXM hXB hK hKS hn hz hvz (TS.low (hb.mono hBw) hS) (TS.low (hb.mono hBw) hV) (hO.low hb))
 have IT:=Hd (fun (wx:World)=>item_any n l m wx hn')
 have RT:=Hd (fun (wx:World)=>wright_any n l m wx hn')
 have IS:=Hd (fun (wx:World)=>wis_any n l m wx hn')
 rw [itemV_eq] at IT
 obtain ⟨A,k,e,_⟩:=sch_cells hS
 injection e with e0 e
 injection e with e1 e
 injection e with e2 e
 subst e0 e1 e2
 obtain ⟨E3,j3,E4,j4,e,hss,⟨hll,hL⟩,hml,hM⟩:=encv_cells hV
 simp only [List.cons.injEq,Value.slice.injEq,and_true,true_and] at e
 obtain ⟨⟨rfl,rfl⟩,rfl,rfl⟩:=e
 have MB:=Hd (fun (wx:World) (hb:Below w.heap.size w wx)=>maybe_any n (l - 1) (m / 2) v.ls.list A3 k3 wx B hn' (Nat.le_trans hBw hb.size) (by rw [VL.list_len];exact hll) (by rw [← encL_list];exact RowT.below (hb.mono hBw) hL))
 rw [VL.list_len] at MB
 have HO:=Hd hO
 have N0:=Hd (NB.start w (.cells #[.slice A S.defs.length k,.string S.query,.string S.mutation,.map (some M)] 157) (.cells #[.string n,.int .i64 l,.int .i64 m,.bool hs,.int .i64 v.kd,.int .i64 v.nn,.string v.ss,.slice A3 v.ls.len k3,.slice A4 v.ms.len k4] 163))
 obtain ⟨r,hr⟩:∃ r,fitsB S.defs n l m v=r:=⟨_,rfl⟩
 rw [hr]
 have he:=hr.symm
 unfold fitsB at he
 have HE:=Hd he
 clear he hr hS hz hV hO hL hll hml hM hX hXM hXB hK hKS hn hn' hvz
 obtain ⟨bi,gi⟩:∃ b,itemB n l m=b:=⟨_,rfl⟩
 obtain ⟨br,gr⟩:∃ b,rightT n.data.toList l m=b:=⟨_,rfl⟩
 obtain ⟨b8,g8⟩:∃ b,(v.kd == 8)=b:=⟨_,rfl⟩
 obtain ⟨b0,g0⟩:∃ b,(v.kd == 0)=b:=⟨_,rfl⟩
 obtain ⟨b6,g6⟩:∃ b,(v.kd == 6)=b:=⟨_,rfl⟩
 have hbr:Hid (bi=true→br=true):=Hd (fun h=>by
  unfold itemB at gi
  rw [gr,h,Bool.and_eq_true] at gi
  exact gi.1)
 rw [gi] at IT
 rw [gr] at RT
 rw [gr,g8,g0,gi,g6] at HE
 generalize isB n.data.toList l m=ib at IS HE
 generalize namedB S.defs n v=nb at NA HE
 generalize mayB n (l - 1) (m / 2) v.ls.list=mb at MB HE
 clear gi gr
 cases bi
 case false =>
  rw [if_neg (by simp)] at IT
  unfold noT at IT
  go_enter Tryz.func158,Tryz.ntmps158
  go_upto_region 1 with fail
  generalize (w.alloc (.cells #[.slice A S.defs.length k,.string S.query,.string S.mutation,.map (some M)] 157)).alloc (.cells #[.string n,.int .i64 l,.int .i64 m,.bool hs,.int .i64 v.kd,.int .i64 v.nn,.string v.ss,.slice A3 v.ls.len k3,.slice A4 v.ms.len k4] 163)=w1 at N0 ⊢
  obtain ⟨⟨y0,y1,y2,y3,y4,y5,y6,y7,y8⟩,_⟩:=nine_cells N0.out.b1
  go_wp2_with fail
  refine (IT.out _).mono ?_
  rintro e w2 ⟨rfl,hb2⟩
  have N2:=Hd (N0.out.next hb2)
  clear hb2 y0 y1 y2 y3 y4 y5 y6 y7 y8 N0
  go_upto_region 2 with fail
  have N3:=Hd (N2.out.next (dbelow_new w2 (.cells #[.string ⟨#[]⟩,.int .i64 0,.int .i64 0] 43)))
  have I3:=heap_alloc_new w2 (.cells #[.string ⟨#[]⟩,.int .i64 0,.int .i64 0] 43)
  generalize w2.alloc (.cells #[.string ⟨#[]⟩,.int .i64 0,.int .i64 0] 43)=w3 at N3 I3 ⊢
  generalize w2.heap.size=g2 at I3 ⊢
  clear N2
  obtain ⟨⟨y0,y1,y2,y3,y4,y5,y6,y7,y8⟩,_⟩:=nine_cells N3.out.b1
  go_wp2_with fail
  refine (RT.out _).mono ?_
  rintro e w4 ⟨rfl,hb4⟩
  have N4:=Hd (N3.out.next hb4)
  have I4:=(hb4.block g2 (Array.getElem?_eq_some_iff.1 I3).1).trans I3
  clear hb4 y0 y1 y2 y3 y4 y5 y6 y7 y8 N3 I3
  obtain ⟨⟨y0,y1,y2,y3,y4,y5,y6,y7,y8⟩,_⟩:=nine_cells N4.out.b1
  obtain ⟨x0,x1,x2,x3⟩:=four_cells N4.out.b0
  obtain ⟨i0,i1,i2⟩:=three_cells I4
  cases br
  case false =>
   rw [if_neg (by simp)] at HE
   go_wp2_with fail
   go_ret
   exact ⟨by rw [HE.out];rfl,MoX.of_below N4.out.low,HO.out.low N4.out.low⟩
  rw [if_pos (by simp)] at HE
  cases b8
  case true =>
   rw [if_pos (by simp)] at HE
   go_wp2_with fail
   go_ret
   exact ⟨by rw [HE.out];rfl,MoX.of_below N4.out.low,HO.out.low N4.out.low⟩
  rw [if_neg (by simp)] at HE
  cases b0
  case true =>
   rw [if_pos (by simp)] at HE
   go_wp2_with fail
   refine (IS.out _).mono ?_
   rintro e w5 ⟨rfl,hb5⟩
   have N5:=Hd (N4.out.next hb5)
   clear hb5
   go_wp2_with fail
   go_ret
   exact ⟨by rw [HE.out];rfl,MoX.of_below N5.out.low,HO.out.low N5.out.low⟩
  rw [if_neg (by simp)] at HE
  rw [if_neg (by simp)] at HE
  go_wp2_with fail
  refine (NA.out _ N4.out.low).mono ?_
  rintro e w5 ⟨rfl,hm5,ho5⟩
  have M5:=Hd ((MoX.of_below N4.out.low).trans hm5)
  have O5:=Hd ho5
  clear hm5 ho5
  go_wp2_with fail
  go_ret
  exact ⟨by rw [HE.out];rfl,M5.out,O5.out⟩
 case true =>
  rw [if_pos (by simp)] at IT
  unfold yesT at IT
  go_enter Tryz.func158,Tryz.ntmps158
  go_upto_region 1 with fail
  generalize (w.alloc (.cells #[.slice A S.defs.length k,.string S.query,.string S.mutation,.map (some M)] 157)).alloc (.cells #[.string n,.int .i64 l,.int .i64 m,.bool hs,.int .i64 v.kd,.int .i64 v.nn,.string v.ss,.slice A3 v.ls.len k3,.slice A4 v.ms.len k4] 163)=w1 at N0 ⊢
  obtain ⟨⟨y0,y1,y2,y3,y4,y5,y6,y7,y8⟩,_⟩:=nine_cells N0.out.b1
  go_wp2_with fail
  refine (IT.out _).mono ?_
  rintro e w2 ⟨rfl,hb2⟩
  have N2:=Hd (N0.out.next hb2)
  clear hb2 y0 y1 y2 y3 y4 y5 y6 y7 y8 N0
  go_upto_region 2 with fail
  have N3:=Hd (N2.out.next (dbelow_new w2 (.cells #[.string n,.int .i64 (l - 1),.int .i64 (m / 2)] 43)))
  have I3:=heap_alloc_new w2 (.cells #[.string n,.int .i64 (l - 1),.int .i64 (m / 2)] 43)
  generalize w2.alloc (.cells #[.string n,.int .i64 (l - 1),.int .i64 (m / 2)] 43)=w3 at N3 I3 ⊢
  generalize w2.heap.size=g2 at I3 ⊢
  clear N2
  obtain ⟨⟨y0,y1,y2,y3,y4,y5,y6,y7,y8⟩,_⟩:=nine_cells N3.out.b1
  go_wp2_with fail
  refine (RT.out _).mono ?_
  rintro e w4 ⟨rfl,hb4⟩
  have N4:=Hd (N3.out.next hb4)
  have I4:=(hb4.block g2 (Array.getElem?_eq_some_iff.1 I3).1).trans I3
  clear hb4 y0 y1 y2 y3 y4 y5 y6 y7 y8 N3 I3
  obtain ⟨⟨y0,y1,y2,y3,y4,y5,y6,y7,y8⟩,_⟩:=nine_cells N4.out.b1
  obtain ⟨x0,x1,x2,x3⟩:=four_cells N4.out.b0
  obtain ⟨i0,i1,i2⟩:=three_cells I4
  obtain rfl:br=true:=hbr.out (by simp)
  rw [if_pos (by simp)] at HE
  cases b8
  case true =>
   rw [if_pos (by simp)] at HE
   go_wp2_with fail
   go_ret
   exact ⟨by rw [HE.out];rfl,MoX.of_below N4.out.low,HO.out.low N4.out.low⟩
  rw [if_neg (by simp)] at HE
  cases b0
  case true =>
   rw [if_pos (by simp)] at HE
   go_wp2_with fail
   refine (IS.out _).mono ?_
   rintro e w5 ⟨rfl,hb5⟩
   have N5:=Hd (N4.out.next hb5)
   clear hb5
   go_wp2_with fail
   go_ret
   exact ⟨by rw [HE.out];rfl,MoX.of_below N5.out.low,HO.out.low N5.out.low⟩
  rw [if_neg (by simp)] at HE
  rw [if_pos (by simp)] at HE
  cases b6
  case false =>
   rw [if_neg (by simp)] at HE
   go_wp2_with fail
   go_ret
   exact ⟨by rw [HE.out];rfl,MoX.of_below N4.out.low,HO.out.low N4.out.low⟩
  rw [if_pos (by simp)] at HE
  go_wp2_with fail
  refine (MB.out _ N4.out.low).mono ?_
  rintro e w5 ⟨rfl,hb5⟩
  have N5:=Hd (N4.out.next hb5)
  clear hb5
  go_wp2_with fail
  go_ret
  exact ⟨by rw [HE.out];rfl,MoX.of_below N5.out.low,HO.out.low N5.out.low⟩
attribute [local go_sem] Oper.semAt_some
theorem ts_vat {w:World} {B:Nat} {v:VT} {c0 c1 c2 c3 c4:Value} (h:TS w (fun b=>b < B) (encV v) [c0,c1,c2,c3,c4]):VAt w B v c0 c1 c2 c3 c4:=by
 obtain ⟨d0,d1,d2,d3,d4,e,h1⟩:=ts_vp v _ h
 cases e
 exact VP.at (fun _ h=>h) v _ _ _ _ _ h1
def R4 (W:World) (g0 g1 g2 g3:Nat) (cs ct cv:Array Value):Prop:=W.heap[g0]? = some (.cells cs 24 (0,0))∧W.heap[g1]? = some (.cells ct 43 (0,0))∧W.heap[g2]? = some (.cells cv 58 (0,0))∧W.heap[g3]? = some (.cells #[.bool false] 4 (0,0))
theorem R4.next {W W':World} {g0 g1 g2 g3:Nat} {cs ct cv:Array Value} (h:R4 W g0 g1 g2 g3 cs ct cv) (hb:Below W.heap.size W W'):R4 W' g0 g1 g2 g3 cs ct cv:=by
 obtain ⟨h0,h1,h2,h3⟩:=h
 exact ⟨(hb.block _ (Array.getElem?_eq_some_iff.1 h0).1).trans h0,(hb.block _ (Array.getElem?_eq_some_iff.1 h1).1).trans h1,(hb.block _ (Array.getElem?_eq_some_iff.1 h2).1).trans h2,(hb.block _ (Array.getElem?_eq_some_iff.1 h3).1).trans h3⟩
theorem R4.start (w:World) (cs ct cv:Array Value):R4 ((((w.alloc (.cells cs 24)).alloc (.cells ct 43)).alloc (.cells cv 58)).alloc (.cells #[.bool false] 4)) w.heap.size (w.heap.size+1) (w.heap.size+1+1) (w.heap.size+1+1+1) cs ct cv:=by
 refine ⟨?_,?_,?_,?_⟩
 · rw [Below.heap_alloc _ _ _ (by simp;omega),Below.heap_alloc _ _ _ (by simp;omega),Below.heap_alloc _ _ _ (by simp)];exact heap_alloc_new _ _
 · rw [Below.heap_alloc _ _ _ (by simp),Below.heap_alloc _ _ _ (by simp)];exact heap_two _ _ _
 · rw [Below.heap_alloc _ _ _ (by simp)]
   have:=heap_two (w.alloc (.cells cs 24)) (.cells ct 43) (.cells cv 58)
   simpa using this
 · have:=heap_two ((w.alloc (.cells cs 24)).alloc (.cells ct 43)) (.cells cv 58) (.cells #[.bool false] 4)
   simpa using this
theorem one_box {w:World} {g:Nat} {u:Value} {t:TypeId} (h:w.heap[g]? = some (.cells #[u] t (0,0))):w.cell? ⟨g,0,none⟩=some u∧w.frozen? ⟨g,0,none⟩=false:=by
 simp [World.cell?,World.frozen?,h]
theorem five_box {w:World} {g:Nat} {c0 c1 c2 c3 c4:Value} {t:TypeId} (h:w.heap[g]? = some (.cells #[c0,c1,c2,c3,c4] t (0,0))):w.cell? ⟨g,0,none⟩=some c0∧w.cell? ⟨g,1,none⟩=some c1∧w.cell? ⟨g,2,none⟩=some c2∧w.cell? ⟨g,3,none⟩=some c3∧w.cell? ⟨g,4,none⟩=some c4:=by
 simp [World.cell?,h]
theorem four_low (w:World) (a b c d:Obj):Below w.heap.size w ((((w.alloc a).alloc b).alloc c).alloc d):=((tbl w a b).alloc (by simp;omega) c).alloc (by simp;omega) d
theorem pl_ts' {w:World} {B:Nat} {n:ByteArray} {l m:Int} {hs:Bool} {v:VT} {c0 c1 c2 c3 c4:Value} (hn:n.size≤9223372036854775807) (h:TS w (fun b=>b < B) (encV v) [c0,c1,c2,c3,c4]):TS w (fun b=>b < B) (encPl ⟨n,l,m,hs,v⟩) [.string n,.int .i64 l,.int .i64 m,.bool hs,c0,c1,c2,c3,c4]:=by
 unfold encPl
 simp only [TS,TP]
 exact ⟨_,_,rfl,⟨rfl,hn⟩,_,_,rfl,⟨rfl,trivial⟩,_,_,rfl,⟨rfl,trivial⟩,_,_,rfl,⟨rfl,trivial⟩,h⟩
def rightL (D:List DefnT) (p:PlT):Bool:=fitV goodB p.v && (allP D p).all fun x=>fitsB D x.tn x.tl x.tm x.v
theorem right_any (S:SchT) (n:ByteArray) (l m:Int) (v:VT) (c0 c1 c2:Value) (A3 A4:Option Addr) (k3 k4:Nat) (w:World) (B:Nat) (hB:B≤w.heap.size) (hw:Laid5 w) (hz:SlimS S) (hvz:sizeV v≤1100000)
   (XS:List PlT) (hXS:XS=allP S.defs ⟨n,l,m,false,v⟩) (KS:List ByteArray) (hKS:KS.length≤maxLen) (hsl:∀ x,x ∈ XS→SlimP KS x) (hN:XS.length≤1099511627776) (hnm:n.size≤9223372036854775807)
   (hS:TS w (fun b=>b < B) (encSch S) [c0,c1,c2]) (hV:TS w (fun b=>b < B) (encV v) [.int .i64 v.kd,.int .i64 v.nn,.string v.ss,.slice A3 v.ls.len k3,.slice A4 v.ms.len k4]) :
   Calls Tryz.prog 115 #[.agg #[c0,c1,c2],.agg #[.string n,.int .i64 l,.int .i64 m],.agg #[.int .i64 v.kd,.int .i64 v.nn,.string v.ss,.slice A3 v.ls.len k3,.slice A4 v.ms.len k4]] w fun e w'=>e=.returned (.bool (rightL S.defs ⟨n,l,m,false,v⟩))∧Below w.heap.size w w':=by
 obtain ⟨A,k,e,_⟩:=sch_cells hS
 injection e with e0 e
 injection e with e1 e
 injection e with e2 e
 subst e0 e1 e2
 have GD:=Hd (fun (wx:World) (hb:Below w.heap.size w wx)=>vgood_any v hvz _ _ _ _ _ wx B (Nat.le_trans hB hb.size) (ts_vat (TS.low (hb.mono hB) hV)) (hw.below hb))
 have HS:=Hd hS
 have HV:=Hd hV
 have HSL:=Hd hsl
 have HX:=Hd hXS
 have HZ:=Hd hz
 clear hw hS hV hsl hXS hz
 refine callsIn_wide.1 (callsIn_of_wp_marks (F:=Fence.wide) (n:=3) Tryz.func115 rfl trivial ?_)
 simp only [Tryz.ntmps115,List.size_toArray,List.length_cons,List.length_nil,Nat.reduceAdd,Nat.reduceSub,Array.replicate_succ,Array.replicate_zero,List.push_toArray,List.append_toArray,List.nil_append,List.cons_append]
 refine wpIn_wide.2 ?_
 go_upto_region 1 with fail
 have R0:=Hd (R4.start w #[.slice A S.defs.length k,.string S.query,.string S.mutation] #[.string n,.int .i64 l,.int .i64 m] #[.int .i64 v.kd,.int .i64 v.nn,.string v.ss,.slice A3 v.ls.len k3,.slice A4 v.ms.len k4])
 have B0:=Hd (four_low w (.cells #[.slice A S.defs.length k,.string S.query,.string S.mutation] 24) (.cells #[.string n,.int .i64 l,.int .i64 m] 43) (.cells #[.int .i64 v.kd,.int .i64 v.nn,.string v.ss,.slice A3 v.ls.len k3,.slice A4 v.ms.len k4] 58) (.cells #[.bool false] 4))
 generalize (((w.alloc (.cells #[.slice A S.defs.length k,.string S.query,.string S.mutation] 24)).alloc (.cells #[.string n,.int .i64 l,.int .i64 m] 43)).alloc (.cells #[.int .i64 v.kd,.int .i64 v.nn,.string v.ss,.slice A3 v.ls.len k3,.slice A4 v.ms.len k4] 58)).alloc (.cells #[.bool false] 4)=w1 at R0 B0 ⊢
 generalize hg3:w.heap.size+1+1+1=g3 at R0 ⊢
 generalize hg2:w.heap.size+1+1=g2 at R0 ⊢
 generalize hg1:w.heap.size+1=g1 at R0 ⊢
 have HG:=Hd (And.intro hg1 (And.intro hg2 hg3))
 clear hg1 hg2 hg3
 obtain ⟨x0,x1,x2,x3,x4⟩:=five_box R0.out.2.2.1
 go_wp2_with fail
 refine (GD.out _ B0.out).mono ?_
 rintro e w2 ⟨rfl,hb2⟩
 have R2:=Hd (R0.out.next hb2)
 have R2K:=Hd R2.out.2.2.2
 have B2:=Hd (B0.out.trans (hb2.mono B0.out.size))
 clear x0 x1 x2 x3 x4 R0 hb2 B0 GD
 obtain ⟨q0,q1⟩:=one_box R2.out.2.2.2
 obtain ⟨bg,hbg⟩:∃ b,fitV goodB v=b:=⟨_,rfl⟩
 rw [hbg]
 cases bg
 · go_wp2_with fail
   have hg:=HG.out
   refine postM_ret (res_bool rfl rfl (World.cell?_setCell_same' _ _ _ (by rw [q0];rfl))) rfl ⟨by unfold rightL;rw [hbg];rfl,B2.out.setCell (p:=⟨g3,0,none⟩) (by show _≤g3;omega) _⟩
 obtain ⟨y0,y1,y2⟩:=three_cells R2.out.1
 have AK:=Hd (fun (wx:World)=>ask_any A S.defs.length k S.query S.mutation wx)
 go_wp2_with fail
 refine (AK.out _).mono ?_
 rintro e w3 ⟨M,rfl,hb3,hM3,hO3⟩
 have R3:=Hd (R2.out.next hb3)
 have B3:=Hd (B2.out.trans (hb3.mono B2.out.size))
 have HM:=Hd hM3
 have HO:=Hd hO3
 clear q0 q1 y0 y1 y2 R2 hb3 B2 AK hM3 hO3
 go_upto_region 4 with fail
 have A4:=heap_alloc_new w3 (.cells #[.slice A S.defs.length k,.string S.query,.string S.mutation,.map (some M)] 157)
 have D4:=Hd (dbelow_new w3 (.cells #[.slice A S.defs.length k,.string S.query,.string S.mutation,.map (some M)] 157))
 have Z4:(w3.alloc (.cells #[.slice A S.defs.length k,.string S.query,.string S.mutation,.map (some M)] 157)).heap.size=w3.heap.size+1:=by simp
 generalize w3.alloc (.cells #[.slice A S.defs.length k,.string S.query,.string S.mutation,.map (some M)] 157)=w4 at A4 D4 Z4 ⊢
 have R4':=Hd (R3.out.next D4.out)
 have HZ4:=Hd Z4
 have HA4:=Hd A4
 obtain ⟨ga,hga⟩:∃ g,w3.heap.size=g:=⟨_,rfl⟩
 have HGA:=Hd hga
 rw [hga] at A4 ⊢
 clear hga Z4
 obtain ⟨x0,x1,x2,x3⟩:=four_cells A4
 obtain ⟨y0,y1,y2⟩:=three_cells R4'.out.2.1
 obtain ⟨z0,z1,z2,z3,z4⟩:=five_box R4'.out.2.2.1
 clear A4
 have PLC:=Hd (fun (wx:World)=>places_any A A3 A4 S.defs.length k M S.query S.mutation n v.ss l m v.kd v.nn false v.ls.len k3 v.ms.len k4 wx)
 go_wp2_with fail
 refine (PLC.out _).mono ?_
 rintro e w5 ⟨rfl,hw5⟩
 have HW5:=Hd hw5
 clear hw5 PLC x0 x1 x2 x3 y0 y1 y2 z0 z1 z2 z3 z4
 go_wp2_with fail
 have hsz5:w5.heap.size=ga+3:=by rw [HW5.out];simp;have h1:=HZ4.out;have h2:=HGA.out;omega
 have L45:Below w4.heap.size w4 w5:=by rw [HW5.out];exact tbl _ _ _
 have S5:w5.heap[w4.heap.size]? = some (.cells #[.slice A S.defs.length k,.string S.query,.string S.mutation,.map (some M)] 157 (0,0)):=by rw [HW5.out,Below.heap_alloc _ _ _ (by simp)];exact heap_alloc_new _ _
 have P5:w5.heap[w4.heap.size+1]? = some (.cells #[.string n,.int .i64 l,.int .i64 m,.bool false,.int .i64 v.kd,.int .i64 v.nn,.string v.ss,.slice A3 v.ls.len k3,.slice A4 v.ms.len k4] 163 (0,0)):=by rw [HW5.out];exact heap_two _ _ _
 have R5:=Hd (R4'.out.next L45)
 have Q5:w5.heap[ga]? = some (.cells #[.slice A S.defs.length k,.string S.query,.string S.mutation,.map (some M)] 157 (0,0)):=by
   have h1:=HA4.out
   rw [HGA.out] at h1
   exact (L45.block ga (Array.getElem?_eq_some_iff.1 h1).1).trans h1
 have hga3:w3.heap.size=ga:=HGA.out
 have hsz4:w4.heap.size=ga+1:=by have:=HZ4.out;omega
 have hg3lt:g3 < w2.heap.size∧w.heap.size≤g3:=⟨(Array.getElem?_eq_some_iff.1 R2K.out).1,by have:=HG.out;omega⟩
 have hMr:w2.heap.size≤M∧M < ga:=⟨HM.out,by have:=(HO.out [] (fun _=>False) []).lt;omega⟩
 have LW:=Hd (B3.out.trans ((D4.out.mono B3.out.size).trans (L45.mono (by have:=B3.out.size;omega))))
 have O5:=Hd (fun (X:Nat→Prop)=>((HO.out S.defs X KS).low D4.out).low L45)
 rw [hsz4] at S5 P5 ⊢
 have HS5:=Hd S5
 have HP5:=Hd P5
 have HQ5:=Hd Q5
 clear S5 P5 Q5 HW5 HA4 HZ4 HGA HM HO D4 R3 B3 R4' L45 hsz4 hga3 R2K
 have hBM:B≤M:=by omega
 obtain ⟨b0,hb0⟩:∃ b,w5.heap.size+2=b:=⟨_,rfl⟩
 have hr3:=R5.out.2.2.2
 have TSC:=Hd (TS.low (LW.out.mono hB) HS.out)
 have TVV:=Hd (TS.low (LW.out.mono hB) HV.out)
 have IS0:Hid (∀ pb sb W1,(pb=ga+1+1∧(sb=ga+1∨sb=ga))→Below w5.heap.size w5 W1→W1.heap.size=w5.heap.size+2→IE S KS M B pb sb (w5.heap.size+2) (.slice A S.defs.length k) (.string S.query) (.string S.mutation) #[.string n,.int .i64 l,.int .i64 m,.bool false,.int .i64 v.kd,.int .i64 v.nn,.string v.ss,.slice A3 v.ls.len k3,.slice A4 v.ms.len k4] (fun b=>b=w5.heap.size+1,fun b=>b < B) W1):=Hd (by
   rintro pb sb W1 ⟨rfl,hsb⟩ hbl hsl1
   refine IE.start _ hBM (by omega) (by omega) (fun b hb=>by subst hb;omega) (by omega) (by omega) ((O5.out _).low hbl) ((hbl.block _ (by omega)).trans HP5.out) ?_ (TS.low (hbl.mono (by omega)) TSC.out)
   rcases hsb with rfl|rfl
   · exact (hbl.block _ (by omega)).trans HS5.out
   · exact (hbl.block _ (by omega)).trans HQ5.out)
 refine (wpIn_wide (n:=3)).1 (wpIn_rangeFunc_z (F:=Fence.wide) rfl (by decide) (gf:=178) (lb:=#[.pointer (some ⟨ga+1+1,0,none⟩),.pointer (some ⟨ga+1,0,none⟩)]) rfl trivial (enters_of Tryz.func178 (by kernel_rfl) rfl)
   XS.length encP (LiesP XS B) (TZ S.defs KS M (w5.heap.size+2)) (fun Z Z' A B=>Z'=Z∧Below A.heap.size A B) (RZ S.defs KS M) (fun _=>rfl) ((fun b=>b=w5.heap.size+1),(fun b=>b < B))
   (fun i Z W=>IJ S KS M B (ga+1+1) ga (w5.heap.size+2) (w5.heap.size+1) (.slice A S.defs.length k) (.string S.query) (.string S.mutation) #[.string n,.int .i64 l,.int .i64 m,.bool false,.int .i64 v.kd,.int .i64 v.nn,.string v.ss,.slice A3 v.ls.len k3,.slice A4 v.ms.len k4] Z W∧(∀ j x,j < i→XS[j]? = some x→fitsB S.defs x.tn x.tl x.tm x.v=true)∧W.heap[g3]? = some (.cells #[.bool false] 4 (0,0))∧Below w.heap.size w W∧¬ Z.1 g3)
   (fun c i W=>c=.ret∧W.cell? ⟨g3,0,none⟩=some (.bool false)∧Below w.heap.size w W∧∃ x,XS[i]? = some x∧fitsB S.defs x.tn x.tl x.tm x.v=false)
   ?hTl ?hIT ?hIr ?hIxr ?hRc ?h0 ?hseq ?hround ?hdone ?hstop)
 case hTl =>
   intro Z Z' a b ht c o hc ho
   refine (ht.mo.block c (Array.getElem?_eq_some_iff.1 ho).1 ?_).trans ho
   rintro (e|e)<;>omega
 case hIT =>
   rintro i Z Z' a b ⟨h1,h2,h3,h4,h5⟩ ht
   refine ⟨h1.t ht,h2,(ht.mo.block g3 (Array.getElem?_eq_some_iff.1 h3).1 (by omega)).trans h3,⟨ht.mo.os.trans h4.os,ht.mo.tape.trans h4.tape,ht.mo.output.trans h4.output,Nat.le_trans h4.size ht.mo.size,fun c hc=>(ht.mo.block c (Nat.lt_of_lt_of_le hc h4.size) (by omega)).trans (h4.block c hc)⟩,by rw [ht.z];exact h5⟩
 case hIr =>
   rintro i Z W o ⟨h1,h2,h3,h4,h5⟩ _
   exact ⟨h1.put (by omega) o,h2,(World.putObj_heap_other (by omega)).trans h3,low_put h4 (by omega) o,h5⟩
 case hIxr =>
   rintro c i W o ⟨h1,h2,h3,h4⟩ _
   exact ⟨h1,(World.cell?_of_block (a:=⟨g3,0,none⟩) (World.putObj_heap_other (by show g3 ≠ _;omega))).trans h2,low_put h3 (by omega) o,h4⟩
 case hRc =>
   rintro i Z Z1 Z' W W1 W3 o o' ⟨h1,_⟩ ⟨rfl,hb⟩ _ hr
   exact h1.comp (by omega) hb hr
 case h0 =>
   intro W1 hb hs1
   exact ⟨⟨IS0.out _ _ W1 ⟨rfl,.inr rfl⟩ hb hs1,fun b h=>.inl h,rfl⟩,fun j x hj=>absurd hj (by omega),(hb.block g3 (by omega)).trans hr3,LW.out.trans (hb.mono LW.out.size),by show ¬ g3=_;omega⟩
 case hseq =>
   intro W1 J Jx hb hs1 hJ hY hJ0
   have hTV1:=TS.low (hb.mono (by omega)) TVV.out
   exact iter_in 2 (by decide) S KS hKS HZ.out M B (ga+1+1) (ga+1) (.slice A S.defs.length k) (.string S.query) (.string S.mutation) ⟨n,l,m,false,v⟩ A3 A4 k3 k4 XS HX.out HSL.out hN (w5.heap.size+2) (w5.heap.size+1) J Jx hJ hY _ W1 hs1.symm hJ0 (IS0.out _ _ W1 ⟨rfl,.inl rfl⟩ hb hs1) (pl_ts' hnm hTV1)
 case hround =>
   rintro i x Z W hi ⟨h1,h2,h3,h4,h5⟩ ⟨y,hy,hT⟩ hlt
   obtain ⟨E3,j3,E4,j4,rfl,htn,hTv⟩:=pl_cells hT
   have f1:M < w5.heap.size:=by omega
   have f2:g3 < w5.heap.size∧g3 < M:=by omega
   have f3:w.heap.size≤w5.heap.size∧B≤w5.heap.size∧w.heap.size≤g3∧w.heap.size≤M:=by omega
   clear hsz5 hMr hg3lt
   have e0:∀ z,(#[19].zip (encP z))=#[(19,.agg z.toArray)]:=fun z=>by simp [encP]
   simp only [e0]
   gi_wp2
   have hb9:=dbelow_new W (.cells #[.string y.tn,.int .i64 y.tl,.int .i64 y.tm,.bool y.has,.int .i64 y.v.kd,.int .i64 y.v.nn,.string y.v.ss,.slice E3 y.v.ls.len j3,.slice E4 y.v.ms.len j4] 163)
   have i9:=heap_alloc_new W (.cells #[.string y.tn,.int .i64 y.tl,.int .i64 y.tm,.bool y.has,.int .i64 y.v.kd,.int .i64 y.v.nn,.string y.v.ss,.slice E3 y.v.ls.len j3,.slice E4 y.v.ms.len j4] 163)
   generalize W.alloc (.cells #[.string y.tn,.int .i64 y.tl,.int .i64 y.tm,.bool y.has,.int .i64 y.v.kd,.int .i64 y.v.nn,.string y.v.ss,.slice E3 y.v.ls.len j3,.slice E4 y.v.ms.len j4] 163)=V at hb9 i9 ⊢
   have hbW:w5.heap.size+2≤W.heap.size:=h1.ie.hbase
   have hj:=h1.below hb9
   have h3v:=(hb9.block g3 (Array.getElem?_eq_some_iff.1 h3).1).trans h3
   have h4v:=h4.trans (hb9.mono h4.size)
   refine ⟨Z,TZ.of_below h1.ie.ok.lt h1.ie.ok.ok.lt hb9,⟨rfl,hb9⟩,⟨hj,h2,h3v,h4v,h5⟩,fun o=>?_⟩
   have hp:=hj.put (by omega) o
   have i9p:=(World.putObj_heap_other (w:=V) (r:=w5.heap.size+1) (o:=o) (show W.heap.size ≠ w5.heap.size+1 by omega)).trans i9
   have h3p:=(World.putObj_heap_other (w:=V) (r:=w5.heap.size+1) (o:=o) (show g3 ≠ w5.heap.size+1 by omega)).trans h3v
   have h4p:=low_put h4v (d:=w5.heap.size+1) (by omega) o
   have hTp:TS (V.putObj (w5.heap.size+1) o) (fun b=>b < B) (encV y.v) [.int .i64 y.v.kd,.int .i64 y.v.nn,.string y.v.ss,.slice E3 y.v.ls.len j3,.slice E4 y.v.ms.len j4]:=TS.keep (fun b hb=>⟨hb,(World.putObj_heap_other (by omega)).trans (hb9.block b (by omega))⟩) _ _ hTv
   generalize V.putObj (w5.heap.size+1) o=V1 at hp i9p h3p h4p hTp ⊢
   generalize W.heap.size=gb at i9p ⊢
   have hsy:=HSL.out y (List.mem_of_getElem? hy)
   have FC:=Hd (fits_any S y.tn y.tl y.tm y.has y.v (.slice A S.defs.length k) (.string S.query) (.string S.mutation) E3 E4 j3 j4 V1 B M (XU Z.2 V1) KS hBM (fun b h=>h.1) ⟨hp.ie.ok.ok.lt,hp.ie.ok.no⟩ (fun b hb h=>h.2 (hp.ie.uB b hb)) hsy.1 hKS (by unfold maxLen;exact htn) HZ.out hsy.2.1 hsy.2.2 hp.ie.sch hTp hp.ie.ok.xu)
   have HP:=Hd hp
   have H2:=Hd h2
   have HY:=Hd hy
   have H4:=Hd h4p
   have H3:=Hd h3p
   obtain ⟨x0,x1,x2,x3⟩:=four_cells hp.ie.sbox
   obtain ⟨⟨y0,y1,y2,y3,y4,y5,y6,y7,y8⟩,_⟩:=nine_cells i9p
   have hd1:w5.heap.size+1 < V1.heap.size:=hp.ie.zlt _ hp.zd
   have hg31:g3 < V1.heap.size:=(Array.getElem?_eq_some_iff.1 h3p).1
   clear hp h2 hy h4p h3p hTp i9p hsy hj h3v h4v i9 hb9 h1 h3 h4 hTv hT
   obtain ⟨bf,hbf⟩:∃ b,fitsB S.defs y.tn y.tl y.tm y.v=b:=⟨_,rfl⟩
   rw [hbf] at FC
   cases bf
   · gi_wp2
     refine ⟨trivial,(CallsIn.inRound _ (callsIn_wide.2 FC.out)).mono ?_⟩
     rintro e V2 ⟨rfl,hm,ho⟩
     obtain ⟨q0,q1⟩:=one_box ((hm.block g3 hg31 (by omega)).trans H3.out)
     have HM:=Hd hm
     clear hm ho
     gi_wp2
     have hm:=HM.out
     refine ⟨⟨?_,?_⟩,rfl,World.cell?_setCell_same' _ _ _ (by rw [q0];rfl),(MoX.low H4.out hm (by omega) (Nat.le_refl _)).setCell (p:=⟨g3,0,none⟩) (by show _≤g3;omega) _,y,HY.out,hbf⟩
     · exact (Below.heap_setCell _ _ _ _ (by show _ ≠ g3;omega)).trans (hm.block _ hd1 (by omega))
     · exact (Below.heap_setCell _ _ _ _ (by show _ ≠ g3;omega)).trans (hm.block _ (by omega) (by omega))
   · gi_wp2
     refine ⟨trivial,(CallsIn.inRound _ (callsIn_wide.2 FC.out)).mono ?_⟩
     rintro e V2 ⟨rfl,hm,ho⟩
     have HM:=Hd hm
     have HO:=Hd ho
     clear hm ho
     gi_wp2
     have hm:=HM.out
     have ho:=HO.out
     have hr:=RZ.of_cache HP.out hm ho
     refine ⟨⟨hm.block _ hd1 (by omega),hm.block _ (by omega) (by omega)⟩,_,⟨HP.out.r hr HP.out.zd,fun j x hj hx=>?_,(hm.block g3 hg31 (by omega)).trans H3.out,MoX.low H4.out hm (by omega) (Nat.le_refl _),h5⟩,hr⟩
     rcases Nat.lt_or_ge j i with hl|hl
     · exact H2.out j x hl hx
     · obtain rfl:j=i:=by omega
       have e:=HY.out
       rw [hx] at e
       obtain rfl:=Option.some.inj e
       exact hbf
 case hdone =>
   rintro Z W ⟨h1,h2,h3,h4,h5⟩ hK
   obtain ⟨q0,q1⟩:=one_box h3
   go_wp2_with fail
   have hc:=World.cell?_setCell_same' W ⟨g3,0,none⟩ (.bool true) (by rw [q0];rfl)
   refine postM_mark (D:=w5.heap.size) rfl ((Below.heap_setCell _ _ _ _ (by show w5.heap.size ≠ g3;omega)).trans hK) (fun w' hb=>res_bool rfl rfl ((World.cell?_of_block (a:=⟨g3,0,none⟩) (hb g3 (by omega))).trans hc)) (fun w' e1 e2 e3 e4 hb=>⟨?_,?_⟩)
   · unfold rightL
     rw [hbg,← HX.out,List.all_eq_true.2 (fun x hx=>by
       obtain ⟨j,hj⟩:=List.mem_iff_getElem?.1 hx
       exact h2 j x (List.getElem?_eq_some_iff.1 hj).1 hj)]
     rfl
   · have h6:=h4.setCell (p:=⟨g3,0,none⟩) (by show _≤g3;omega) (.bool true)
     exact ⟨e1.trans h6.os,e2.trans h6.tape,e3.trans h6.output,by rw [e4];exact h6.size,fun b hb'=>(hb b (by omega)).trans (h6.block b hb')⟩
 case hstop =>
   rintro c i W hi ⟨rfl,h3,h4,x,hx,hf⟩ hK
   refine wpIn_wide.2 ?_
   have q0:=h3
   go_wp2_with fail
   refine postM_mark (D:=w5.heap.size) rfl hK (fun w' hb=>res_bool rfl rfl ((World.cell?_of_block (a:=⟨g3,0,none⟩) (hb g3 (by omega))).trans q0)) (fun w' e1 e2 e3 e4 hb=>⟨?_,?_⟩)
   · have hr:rightL S.defs ⟨n,l,m,false,v⟩=false:=by
       unfold rightL
       rw [← HX.out,Bool.and_eq_false_iff]
       refine .inr (Bool.eq_false_iff.2 fun h=>?_)
       have:=List.all_eq_true.1 h x (List.mem_of_getElem? hx)
       rw [hf] at this
       cases this
     rw [hr]
   · exact ⟨e1.trans h4.os,e2.trans h4.tape,e3.trans h4.output,by rw [e4];exact h4.size,fun b hb'=>(hb b (by omega)).trans (h4.block b hb')⟩
end Go.Proofs.YtaekdfcpbepepaaGreatDoor
