/- The walks of value.Good and value.Plain. -/
import Derived.Test.YtaekdfcpbepepaaGreatDoorQt19
set_option maxRecDepth 100000
set_option maxHeartbeats 8000000
namespace Go.Proofs.YtaekdfcpbepepaaGreatDoor
open Go.RowKit
theorem test_good:TestC 177 goodB:=
 ⟨Go.Proofs.enters_of Tryz.func177 (by kernel_rfl) rfl,fun s w hs hw=>good_any s w hs hw.1⟩
theorem test_name:TestC 17 nameB:=
 ⟨Go.Proofs.enters_of Tryz.func17 (by kernel_rfl) rfl,fun s w hs _=>(name_any s w (by omega)).mono (by rintro e w' ⟨he,rfl⟩;exact ⟨he,Below.refl _ _⟩)⟩
def plainB (v:VT):Bool:=fitV nameB v && decide (depV v≤16)
theorem vgood_any (v:VT) (hz:sizeV v≤1100000) (c0 c1 c2 c3 c4:Value) (w:World) (B:Nat) (hB:B≤w.heap.size) (hv:VAt w B v c0 c1 c2 c3 c4) (hw:Laid5 w) :
  Calls Tryz.prog 155 #[.agg #[c0,c1,c2,c3,c4]] w fun e w'=>e=.returned (.bool (fitV goodB v))∧Below w.heap.size w w':=by
 obtain ⟨k,n,s,l,m⟩:=v
 generalize hU:VT.mk k n s l m=U at *
 have HV:=Hd hv
 rw [← hU] at hv
 unfold VAt at hv
 obtain ⟨rfl,rfl,rfl,_,⟨A,c,rfl,hl,hL⟩,A',c',rfl,hm,hM⟩:=hv
 have hb1:=Hd ((Below.refl w.heap.size w).alloc (Nat.le_refl _) (.cells #[.int .i64 k,.int .i64 n,.string s,.slice A l.len c,.slice A' m.len c'] 58))
 have HF:=Hd (vfits_any _ _ test_good U hz _ _ _ _ _ _ B (Nat.le_trans hB hb1.out.size) (VAt.below (hb1.out.mono hB) _ _ _ _ _ _ HV.out) (hw.below hb1.out))
 clear hL hM hU hw hz
 go_enter Tryz.func155,Tryz.ntmps155
 go_wp2_with fail
 refine HF.out.mono ?_
 rintro e w2 ⟨rfl,hb2⟩
 have HB2:=Hd (hb1.out.trans (hb2.mono hb1.out.size))
 clear hb2
 go_wp2_with fail
 go_ret
 exact ⟨rfl,HB2.out⟩
theorem vplain_any (v:VT) (hz:sizeV v≤1100000) (c0 c1 c2 c3 c4:Value) (w:World) (B:Nat) (hB:B≤w.heap.size) (hv:VAt w B v c0 c1 c2 c3 c4) (hw:Laid5 w) :
   Calls Tryz.prog 221 #[.agg #[c0,c1,c2,c3,c4]] w fun e w'=>e=.returned (.bool (plainB v))∧Below w.heap.size w w':=by
 have hD:=depth_any v hz
 obtain ⟨k,n,s,l,m⟩:=v
 generalize hU:VT.mk k n s l m=U at *
 have HV:=Hd hv
 rw [← hU] at hv
 unfold VAt at hv
 obtain ⟨rfl,rfl,rfl,_,⟨A,c,rfl,hl,hL⟩,A',c',rfl,hm,hM⟩:=hv
 have hb1:=Hd ((Below.refl w.heap.size w).alloc (Nat.le_refl _) (.cells #[.int .i64 k,.int .i64 n,.string s,.slice A l.len c,.slice A' m.len c'] 58))
 have HF:=Hd (vfits_any _ _ test_name U hz _ _ _ _ _ _ B (Nat.le_trans hB hb1.out.size) (VAt.below (hb1.out.mono hB) _ _ _ _ _ _ HV.out) (hw.below hb1.out))
 have HDD:=Hd hD
 have HB0:=Hd hB
 have hF5:=Hd (five_at_new w (.int .i64 k) (.int .i64 n) (.string s) (.slice A l.len c) (.slice A' m.len c') 58 rfl)
 have hsw:Hid ((w.alloc (.cells #[.int .i64 k,.int .i64 n,.string s,.slice A l.len c,.slice A' m.len c'] 58)).heap.size=w.heap.size+1):=Hd (by simp)
 have hpl:Hid (plainB U=(fitV nameB U && decide (depV U≤16))):=Hd rfl
 have hdz:=Hd (Nat.le_trans (dep_size U) hz)
 clear hL hM hU hw hz hD hB
 cases hf:fitV nameB U with
 | false =>
   rw [hf] at HF hpl
   clear hf
   go_enter Tryz.func221,Tryz.ntmps221
   go_wp2_with fail
   refine HF.out.mono ?_
   rintro e w2 ⟨rfl,hb2⟩
   have HB2:=Hd (hb1.out.trans (hb2.mono hb1.out.size))
   clear hb2
   go_wp2_with fail
   go_ret
   exact ⟨ret_bool (by rw [hpl.out];rfl),HB2.out⟩
 | true =>
   rw [hf] at HF hpl
   clear hf
   go_enter Tryz.func221,Tryz.ntmps221
   go_wp2_with fail
   refine HF.out.mono ?_
   rintro e w2 ⟨rfl,hb2⟩
   have hb3:=hb1.out.trans (hb2.mono hb1.out.size)
   have HB2:=Hd hb3
   have hs2:=hb3.size
   obtain ⟨e0,e1,e2,e3,e4⟩:=hF5.out.below hb2 (by rw [hsw.out];omega)
   clear hb2 hb3
   go_wp2_with fail
   refine (HDD.out _ _ _ _ _ _ B (Nat.le_trans HB0.out hs2) (VAt.below (HB2.out.mono HB0.out) _ _ _ _ _ _ HV.out)).mono ?_
   rintro e w3 ⟨rfl,hb4⟩
   have HB3:=Hd (HB2.out.trans (hb4.mono hs2))
   clear hb4 e0 e1 e2 e3 e4
   obtain ⟨d,hd⟩:∃ d,depV U=d:=⟨_,rfl⟩
   rw [hd] at hpl hdz ⊢
   clear hd
   by_cases h16:d≤16
   · have h16':(d:Int)≤16:=by omega
     have hr:Hid (plainB U=true):=Hd (by rw [hpl.out];simpa using h16)
     go_wp2_with fail
     go_ret
     exact ⟨ret_bool (by rw [hr.out];first|rfl|(simp;done)|(simp;omega)|skip),HB3.out⟩
   · have h16' : ¬ (d:Int)≤16:=by omega
     have hr:Hid (plainB U=false):=Hd (by rw [hpl.out];simpa using h16)
     go_wp2_with fail
     go_ret
     exact ⟨ret_bool (by rw [hr.out];first|rfl|(simp;done)|(simp;omega)|skip),HB3.out⟩
def aloneB (v:VT):Bool:=(v.kd != 6) && ((v.kd != 8) && (v.kd != 0))
theorem alone_any (v:VT) (c1 c2 c3 c4:Value) (w:World) :
  Calls Tryz.prog 208 #[.agg #[.int .i64 v.kd,c1,c2,c3,c4]] w fun e w'=>e=.returned (.bool (aloneB v))∧Below w.heap.size w w':=by
 have B0:=Hd (dbelow_new w (.cells #[.int .i64 v.kd,c1,c2,c3,c4] 58))
 have X0:=heap_alloc_new w (.cells #[.int .i64 v.kd,c1,c2,c3,c4] 58)
 obtain ⟨y0,y1,y2,y3,y4⟩:=five_at X0
 have HE:Hid (aloneB v=((v.kd != 6) && ((v.kd != 8) && (v.kd != 0)))):=Hd rfl
 clear X0
 obtain ⟨b6,h6⟩:∃ b,(v.kd != 6)=b:=⟨_,rfl⟩
 obtain ⟨b8,h8⟩:∃ b,(v.kd != 8)=b:=⟨_,rfl⟩
 obtain ⟨b0,h0⟩:∃ b,(v.kd != 0)=b:=⟨_,rfl⟩
 rw [h6,h8,h0] at HE
 cases b6
 case false =>
  go_enter Tryz.func208,Tryz.ntmps208
  go_wp2_with fail
  go_ret
  exact ⟨by rw [HE.out];rfl,B0.out⟩
 case true =>
  cases b8
  case false =>
   go_enter Tryz.func208,Tryz.ntmps208
   go_wp2_with fail
   go_ret
   exact ⟨by rw [HE.out];rfl,B0.out⟩
  case true =>
   go_enter Tryz.func208,Tryz.ntmps208
   go_wp2_with fail
   go_ret
   exact ⟨by rw [HE.out];rfl,B0.out⟩
theorem aidx_any (vs:List VT) (A:Option Addr) (c:Nat) (w:World) (B:Nat) (hB:B≤w.heap.size) (hl:vs.length≤9223372036854775807) (hR:RowT w (fun b=>b < B) (rowOf encV vs) A) :
  Calls Tryz.prog 231 #[.slice A vs.length c,.func (.func 208) #[] #[]] w fun e w'=>∃ z:Int,e=.returned (.int .i64 z)∧decide (0≤z)=vs.any aloneB∧Below w.heap.size w w':=by
 have HR:=Hd hR
 have HB:=Hd hB
 clear hR hB
 go_enter Tryz.func231,Tryz.ntmps231
 go_wp2_with fail
 go_loopg [5,8] vs.length (fun gk _ i wx=>∃ q:Nat,q+gk=vs.length∧i=.int .i64 q∧Aside ((vs.drop q).any aloneB=vs.any aloneB∧Below w.heap.size w wx))
 case atStart=>exact ⟨0,by omega,rfl,Blk.Aside.intro ⟨rfl,Below.refl _ _⟩⟩
 case round =>
  obtain ⟨q,hq,rfl,HX⟩:=hrel
  obtain ⟨hf,hb⟩:=HX.out
  have HF:=Hd hf
  have HBB:=Hd hb
  clear HX hf hb
  cases gk with
  | zero =>
    obtain rfl:q=vs.length:=by omega
    go_wp2_with fail
    go_ret
    exact ⟨-1,rfl,by rw [← HF.out,List.drop_length];rfl,HBB.out⟩
  | succ gg =>
    have hqn:q < vs.length:=by omega
    have hqn':(q:Int) < (vs.length:Int):=by omega
    obtain ⟨x,hx⟩:∃ x,vs[q]? = some x:=⟨_,List.getElem?_eq_getElem hqn⟩
    obtain ⟨b,p,A3,k3,A4,k4,rfl,hb,⟨g0,g1,g2,g3,g4⟩,_⟩:=val_at (RowT.below (HBB.out.mono HB.out) HR.out) hx
    have hbl:b < wr.heap.size:=Nat.lt_of_lt_of_le hb (Nat.le_trans HB.out HBB.out.size)
    have hK:Hid ((vs.drop q).any aloneB=(aloneB x || (vs.drop (q+1)).any aloneB)):=Hd (by
      have e:vs[q]=x:=(List.getElem?_eq_some_iff.1 hx).2
      rw [List.drop_eq_getElem_cons hqn,e,List.any_cons])
    have AL:=Hd (alone_any x (.int .i64 x.nn) (.string x.ss) (.slice A3 x.ls.len k3) (.slice A4 x.ms.len k4) wr)
    generalize aloneB x=ab at hK AL
    clear hx hb
    go_wp2_with fail
    refine AL.out.mono ?_
    rintro e w2 ⟨rfl,hb2⟩
    have D2:=Hd (HBB.out.trans (hb2.mono HBB.out.size))
    clear hb2 g0 g1 g2 g3 g4 AL
    cases ab with
    | true =>
      go_wp2_with fail
      go_ret
      exact ⟨(q:Int),rfl,by rw [← HF.out,hK.out];simp,D2.out⟩
    | false =>
      go_wp2_with fail
      go_roundg gg
      case measure=>omega
      case rel=>exact ⟨q+1,by omega,by go_num,Blk.Aside.intro ⟨by rw [← HF.out,hK.out];rfl,D2.out⟩⟩
theorem acont_any (vs:List VT) (A:Option Addr) (c:Nat) (w:World) (B:Nat) (hB:B≤w.heap.size) (hl:vs.length≤9223372036854775807) (hR:RowT w (fun b=>b < B) (rowOf encV vs) A) :
  Calls Tryz.prog 207 #[.slice A vs.length c,.func (.func 208) #[] #[]] w fun e w'=>e=.returned (.bool (vs.any aloneB))∧Below w.heap.size w w':=by
 have I:=Hd (aidx_any vs A c w B hB hl hR)
 clear hB hl hR
 go_enter Tryz.func207,Tryz.ntmps207
 go_wp2_with fail
 refine I.out.mono ?_
 rintro e w2 ⟨z,rfl,hz,hb2⟩
 have D2:=Hd hb2
 have HZ:=Hd hz
 clear hb2 hz I
 go_wp2_with fail
 go_ret
 exact ⟨by rw [← HZ.out];rfl,D2.out⟩
def mayB (n:ByteArray) (l m:Int) (vs:List VT):Bool:=!itemB n l m || !vs.any aloneB
theorem maybe_any (n:ByteArray) (l m:Int) (vs:List VT) (A:Option Addr) (c:Nat) (w:World) (B:Nat) (hn:n.size≤9223372036854775807) (hB:B≤w.heap.size) (hl:vs.length≤9223372036854775807) (hR:RowT w (fun b=>b < B) (rowOf encV vs) A) :
   Calls Tryz.prog 181 #[.agg #[.string n,.int .i64 l,.int .i64 m],.slice A vs.length c] w fun e w'=>e=.returned (.bool (mayB n l m vs))∧Below w.heap.size w w':=by
 have C:=Hd (fun (wx:World) (hb:Below w.heap.size w wx)=>acont_any vs A c wx B (Nat.le_trans hB hb.size) hl (RowT.below (hb.mono hB) hR))
 have IT:=Hd (fun (wx:World)=>item_any n l m wx hn)
 rw [itemV_eq] at IT
 have HE:Hid (mayB n l m vs=(!itemB n l m || !vs.any aloneB)):=Hd rfl
 have B0:=Hd (dbelow_new w (.cells #[.string n,.int .i64 l,.int .i64 m] 43))
 have X0:=heap_alloc_new w (.cells #[.string n,.int .i64 l,.int .i64 m] 43)
 obtain ⟨x0,x1,x2⟩:=three_cells X0
 clear X0 hB hl hR hn
 generalize itemB n l m=ib at IT HE
 generalize vs.any aloneB=ab at C HE
 cases ib with
 | false =>
   rw [if_neg (by simp)] at IT
   unfold noT at IT
   go_enter Tryz.func181,Tryz.ntmps181
   go_wp2_with fail
   refine (IT.out _).mono ?_
   rintro e w2 ⟨rfl,hb2⟩
   have D2:=Hd ((B0.out.trans (hb2.mono B0.out.size)).alloc (Nat.le_trans B0.out.size hb2.size) (.cells #[.string ⟨#[]⟩,.int .i64 0,.int .i64 0] 43))
   clear hb2 x0 x1 x2
   go_upto_region 2 with fail
   generalize w2.alloc (.cells #[.string ⟨#[]⟩,.int .i64 0,.int .i64 0] 43)=w3 at D2 ⊢
   go_wp2_with fail
   go_ret
   exact ⟨by rw [HE.out];rfl,D2.out⟩
 | true =>
   rw [if_pos rfl] at IT
   unfold yesT at IT
   go_enter Tryz.func181,Tryz.ntmps181
   go_wp2_with fail
   refine (IT.out _).mono ?_
   rintro e w2 ⟨rfl,hb2⟩
   have D2:=Hd ((B0.out.trans (hb2.mono B0.out.size)).alloc (Nat.le_trans B0.out.size hb2.size) (.cells #[.string n,.int .i64 (l - 1),.int .i64 (m / 2)] 43))
   clear hb2 x0 x1 x2
   go_upto_region 2 with fail
   generalize w2.alloc (.cells #[.string n,.int .i64 (l - 1),.int .i64 (m / 2)] 43)=w3 at D2 ⊢
   go_wp2_with fail
   refine (C.out _ D2.out).mono ?_
   rintro e w4 ⟨rfl,hb4⟩
   have D4:=Hd (D2.out.trans (hb4.mono D2.out.size))
   clear hb4
   go_wp2_with fail
   go_ret
   exact ⟨by rw [HE.out];rfl,D4.out⟩
def fitsB (D:List DefnT) (n:ByteArray) (l m:Int) (v:VT):Bool:=
 if rightT n.data.toList l m=true then (
  if (v.kd == 8)=true then true else
  if (v.kd == 0)=true then !isB n.data.toList l m else
  if itemB n l m=true then (if (v.kd == 6)=true then mayB n (l - 1) (m / 2) v.ls.list else true) else namedB D n v) else false
theorem fits_any (S:SchT) (n:ByteArray) (l m:Int) (hs:Bool) (v:VT) (c0 c1 c2:Value) (A3 A4:Option Addr) (k3 k4:Nat) (w:World) (B M:Nat) (X:Nat→Prop) (KS:List ByteArray) (hB:B≤M) (hX:∀ b,X b→b < w.heap.size) (hXM:X M) (hXB:∀ b,b < B→¬ X b) (hK:n ∈ KS) (hKS:KS.length≤maxLen) (hn:n.size≤maxLen) (hz:SlimS S) (hvz:v.ms.len*120≤140737488355328) (_hvl:v.ls.len*80≤140737488355328)
  (hS:TS w (fun b=>b < B) (encSch S) [c0,c1,c2]) (hV:TS w (fun b=>b < B) (encV v) [.int .i64 v.kd,.int .i64 v.nn,.string v.ss,.slice A3 v.ls.len k3,.slice A4 v.ms.len k4]) (hO:MOK S.defs X KS M w) :
  Calls Tryz.prog 158 #[.agg #[c0,c1,c2,.map (some M)],.agg #[.string n,.int .i64 l,.int .i64 m,.bool hs,.int .i64 v.kd,.int .i64 v.nn,.string v.ss,.slice A3 v.ls.len k3,.slice A4 v.ms.len k4]] w (BoolC (fitsB S.defs n l m v) S.defs X KS M w):=by
 have hMl:=hO.lt
 have hBw:B≤w.heap.size:=by omega
 have hn':n.size≤9223372036854775807:=by unfold maxLen at hn;omega
 have NA:=Hd (fun (wx:World) (hb:Below w.heap.size w wx)=>named_any S n v c0 c1 c2 A3 A4 k3 k4 wx B M X KS hB (fun b h=>Nat.lt_of_lt_of_le (hX b h) hb.size) hXM hXB hK hKS hn hz hvz (TS.low (hb.mono hBw) hS) (TS.low (hb.mono hBw) hV) (hO.low hb))
 have IT:=Hd (fun (wx:World)=>item_any n l m wx hn')
 have RT:=Hd (fun (wx:World)=>wright_any n l m wx hn')
 have IS:=Hd (fun (wx:World)=>wis_any n l m wx hn')
 rw [itemV_eq] at IT
 obtain ⟨A,k,e,_⟩:=sch_cells hS
 injection e with e0 e
 injection e with e1 e
 injection e with e2 e
 subst e0 e1 e2
 obtain ⟨E3,j3,E4,j4,e,hss,⟨hll,hL⟩,hml,hM⟩:=encv_cells hV
 simp only [List.cons.injEq,Value.slice.injEq,and_true,true_and] at e
 obtain ⟨⟨rfl,rfl⟩,rfl,rfl⟩:=e
 have MB:=Hd (fun (wx:World) (hb:Below w.heap.size w wx)=>maybe_any n (l - 1) (m / 2) v.ls.list A3 k3 wx B hn' (Nat.le_trans hBw hb.size) (by rw [VL.list_len];exact hll) (by rw [← encL_list];exact RowT.below (hb.mono hBw) hL))
 rw [VL.list_len] at MB
 have HO:=Hd hO
 have N0:=Hd (NB.start w (.cells #[.slice A S.defs.length k,.string S.query,.string S.mutation,.map (some M)] 157) (.cells #[.string n,.int .i64 l,.int .i64 m,.bool hs,.int .i64 v.kd,.int .i64 v.nn,.string v.ss,.slice A3 v.ls.len k3,.slice A4 v.ms.len k4] 163))
 obtain ⟨r,hr⟩:∃ r,fitsB S.defs n l m v=r:=⟨_,rfl⟩
 rw [hr]
 have he:=hr.symm
 unfold fitsB at he
 have HE:=Hd he
 clear he hr hS hz hV hO hL hll hml hM hX hXM hXB hK hKS hn hn' hvz
 obtain ⟨bi,gi⟩:∃ b,itemB n l m=b:=⟨_,rfl⟩
 obtain ⟨br,gr⟩:∃ b,rightT n.data.toList l m=b:=⟨_,rfl⟩
 obtain ⟨b8,g8⟩:∃ b,(v.kd == 8)=b:=⟨_,rfl⟩
 obtain ⟨b0,g0⟩:∃ b,(v.kd == 0)=b:=⟨_,rfl⟩
 obtain ⟨b6,g6⟩:∃ b,(v.kd == 6)=b:=⟨_,rfl⟩
 have hbr:Hid (bi=true→br=true):=Hd (fun h=>by
  unfold itemB at gi
  rw [gr,h,Bool.and_eq_true] at gi
  exact gi.1)
 rw [gi] at IT
 rw [gr] at RT
 rw [gr,g8,g0,gi,g6] at HE
 generalize isB n.data.toList l m=ib at IS HE
 generalize namedB S.defs n v=nb at NA HE
 generalize mayB n (l - 1) (m / 2) v.ls.list=mb at MB HE
 clear gi gr
 cases bi
 case false =>
  rw [if_neg (by simp)] at IT
  unfold noT at IT
  go_enter Tryz.func158,Tryz.ntmps158
  go_upto_region 1 with fail
  generalize (w.alloc (.cells #[.slice A S.defs.length k,.string S.query,.string S.mutation,.map (some M)] 157)).alloc (.cells #[.string n,.int .i64 l,.int .i64 m,.bool hs,.int .i64 v.kd,.int .i64 v.nn,.string v.ss,.slice A3 v.ls.len k3,.slice A4 v.ms.len k4] 163)=w1 at N0 ⊢
  obtain ⟨⟨y0,y1,y2,y3,y4,y5,y6,y7,y8⟩,_⟩:=nine_cells N0.out.b1
  go_wp2_with fail
  refine (IT.out _).mono ?_
  rintro e w2 ⟨rfl,hb2⟩
  have N2:=Hd (N0.out.next hb2)
  clear hb2 y0 y1 y2 y3 y4 y5 y6 y7 y8 N0
  go_upto_region 2 with fail
  have N3:=Hd (N2.out.next (dbelow_new w2 (.cells #[.string ⟨#[]⟩,.int .i64 0,.int .i64 0] 43)))
  have I3:=heap_alloc_new w2 (.cells #[.string ⟨#[]⟩,.int .i64 0,.int .i64 0] 43)
  generalize w2.alloc (.cells #[.string ⟨#[]⟩,.int .i64 0,.int .i64 0] 43)=w3 at N3 I3 ⊢
  generalize w2.heap.size=g2 at I3 ⊢
  clear N2
  obtain ⟨⟨y0,y1,y2,y3,y4,y5,y6,y7,y8⟩,_⟩:=nine_cells N3.out.b1
  go_wp2_with fail
  refine (RT.out _).mono ?_
  rintro e w4 ⟨rfl,hb4⟩
  have N4:=Hd (N3.out.next hb4)
  have I4:=(hb4.block g2 (Array.getElem?_eq_some_iff.1 I3).1).trans I3
  clear hb4 y0 y1 y2 y3 y4 y5 y6 y7 y8 N3 I3
  obtain ⟨⟨y0,y1,y2,y3,y4,y5,y6,y7,y8⟩,_⟩:=nine_cells N4.out.b1
  obtain ⟨x0,x1,x2,x3⟩:=four_cells N4.out.b0
  obtain ⟨i0,i1,i2⟩:=three_cells I4
  cases br
  case false =>
   rw [if_neg (by simp)] at HE
   go_wp2_with fail
   go_ret
   exact ⟨by rw [HE.out];rfl,MoX.of_below N4.out.low,HO.out.low N4.out.low⟩
  rw [if_pos (by simp)] at HE
  cases b8
  case true =>
   rw [if_pos (by simp)] at HE
   go_wp2_with fail
   go_ret
   exact ⟨by rw [HE.out];rfl,MoX.of_below N4.out.low,HO.out.low N4.out.low⟩
  rw [if_neg (by simp)] at HE
  cases b0
  case true =>
   rw [if_pos (by simp)] at HE
   go_wp2_with fail
   refine (IS.out _).mono ?_
   rintro e w5 ⟨rfl,hb5⟩
   have N5:=Hd (N4.out.next hb5)
   clear hb5
   go_wp2_with fail
   go_ret
   exact ⟨by rw [HE.out];rfl,MoX.of_below N5.out.low,HO.out.low N5.out.low⟩
  rw [if_neg (by simp)] at HE
  rw [if_neg (by simp)] at HE
  go_wp2_with fail
  refine (NA.out _ N4.out.low).mono ?_
  rintro e w5 ⟨rfl,hm5,ho5⟩
  have M5:=Hd ((MoX.of_below N4.out.low).trans hm5)
  have O5:=Hd ho5
  clear hm5 ho5
  go_wp2_with fail
  go_ret
  exact ⟨by rw [HE.out];rfl,M5.out,O5.out⟩
 case true =>
  rw [if_pos (by simp)] at IT
  unfold yesT at IT
  go_enter Tryz.func158,Tryz.ntmps158
  go_upto_region 1 with fail
  generalize (w.alloc (.cells #[.slice A S.defs.length k,.string S.query,.string S.mutation,.map (some M)] 157)).alloc (.cells #[.string n,.int .i64 l,.int .i64 m,.bool hs,.int .i64 v.kd,.int .i64 v.nn,.string v.ss,.slice A3 v.ls.len k3,.slice A4 v.ms.len k4] 163)=w1 at N0 ⊢
  obtain ⟨⟨y0,y1,y2,y3,y4,y5,y6,y7,y8⟩,_⟩:=nine_cells N0.out.b1
  go_wp2_with fail
  refine (IT.out _).mono ?_
  rintro e w2 ⟨rfl,hb2⟩
  have N2:=Hd (N0.out.next hb2)
  clear hb2 y0 y1 y2 y3 y4 y5 y6 y7 y8 N0
  go_upto_region 2 with fail
  have N3:=Hd (N2.out.next (dbelow_new w2 (.cells #[.string n,.int .i64 (l - 1),.int .i64 (m / 2)] 43)))
  have I3:=heap_alloc_new w2 (.cells #[.string n,.int .i64 (l - 1),.int .i64 (m / 2)] 43)
  generalize w2.alloc (.cells #[.string n,.int .i64 (l - 1),.int .i64 (m / 2)] 43)=w3 at N3 I3 ⊢
  generalize w2.heap.size=g2 at I3 ⊢
  clear N2
  obtain ⟨⟨y0,y1,y2,y3,y4,y5,y6,y7,y8⟩,_⟩:=nine_cells N3.out.b1
  go_wp2_with fail
  refine (RT.out _).mono ?_
  rintro e w4 ⟨rfl,hb4⟩
  have N4:=Hd (N3.out.next hb4)
  have I4:=(hb4.block g2 (Array.getElem?_eq_some_iff.1 I3).1).trans I3
  clear hb4 y0 y1 y2 y3 y4 y5 y6 y7 y8 N3 I3
  obtain ⟨⟨y0,y1,y2,y3,y4,y5,y6,y7,y8⟩,_⟩:=nine_cells N4.out.b1
  obtain ⟨x0,x1,x2,x3⟩:=four_cells N4.out.b0
  obtain ⟨i0,i1,i2⟩:=three_cells I4
  obtain rfl:br=true:=hbr.out (by simp)
  rw [if_pos (by simp)] at HE
  cases b8
  case true =>
   rw [if_pos (by simp)] at HE
   go_wp2_with fail
   go_ret
   exact ⟨by rw [HE.out];rfl,MoX.of_below N4.out.low,HO.out.low N4.out.low⟩
  rw [if_neg (by simp)] at HE
  cases b0
  case true =>
   rw [if_pos (by simp)] at HE
   go_wp2_with fail
   refine (IS.out _).mono ?_
   rintro e w5 ⟨rfl,hb5⟩
   have N5:=Hd (N4.out.next hb5)
   clear hb5
   go_wp2_with fail
   go_ret
   exact ⟨by rw [HE.out];rfl,MoX.of_below N5.out.low,HO.out.low N5.out.low⟩
  rw [if_neg (by simp)] at HE
  rw [if_pos (by simp)] at HE
  cases b6
  case false =>
   rw [if_neg (by simp)] at HE
   go_wp2_with fail
   go_ret
   exact ⟨by rw [HE.out];rfl,MoX.of_below N4.out.low,HO.out.low N4.out.low⟩
  rw [if_pos (by simp)] at HE
  go_wp2_with fail
  refine (MB.out _ N4.out.low).mono ?_
  rintro e w5 ⟨rfl,hb5⟩
  have N5:=Hd (N4.out.next hb5)
  clear hb5
  go_wp2_with fail
  go_ret
  exact ⟨by rw [HE.out];rfl,MoX.of_below N5.out.low,HO.out.low N5.out.low⟩
end Go.Proofs.YtaekdfcpbepepaaGreatDoor
