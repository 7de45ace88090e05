/- defs.Meets. -/
import Derived.Test.YtaekdfcpbepepaaGreatDoorQb28
set_option maxRecDepth 100000
set_option maxHeartbeats 8000000
namespace Go.Proofs.YtaekdfcpbepepaaGreatDoor
open Go.RowKit
theorem poss_len (S:SchT) (n:ByteArray) (hz:SlimS S):(possL S n).length≤9223372036854775807:=by
 have h1:=hz.1
 have h2:=(find_slim hz.2 n).2.2.1
 have h3:=bearers_len S.defs n
 have h4:=once_len (bearersL S.defs n)
 have h5:=once_len (findD S.defs n).1.parts
 have h6:=objL_len S (onceL (findD S.defs n).1.parts)
 unfold possL
 split
 · split
   · simp
   · split
     · omega
     · split
       · omega
       · simp
 · simp
def BX (w:World) (c0 c1 c2:Value) (W:World):Prop:=Below w.heap.size w W∧W.heap[w.heap.size]? = some (.cells #[c0,c1,c2] 24 (0,0))
theorem BX.next {w W W':World} {c0 c1 c2:Value} (h:BX w c0 c1 c2 W) (hb:Below W.heap.size W W'):BX w c0 c1 c2 W':=
 ⟨h.1.trans (hb.mono h.1.size),(hb.block _ (Array.getElem?_eq_some_iff.1 h.2).1).trans h.2⟩
theorem BX.lt {w W:World} {c0 c1 c2:Value} (h:BX w c0 c1 c2 W):w.heap.size < W.heap.size:=(Array.getElem?_eq_some_iff.1 h.2).1
def narB (S:SchT) (a b:ByteArray):Bool:=
 a.toList == b.toList || (if isD S.defs a [1]=true then hasN (possL S b) a else (isD S.defs a [2] && (isD S.defs b [2] && hasN (findD S.defs a).1.faces b)))
theorem narrower_any (S:SchT) (a b:ByteArray) (c0 c1 c2:Value) (w:World) (B:Nat) (hB:B≤w.heap.size) (ha:a.size≤9223372036854775807) (hb:b.size≤9223372036854775807) (hz:SlimS S) (hS:TS w (fun b=>b < B) (encSch S) [c0,c1,c2]) :
   Calls Tryz.prog 46 #[.agg #[c0,c1,c2],.string a,.string b] w fun e w'=>e=.returned (.bool (narB S a b))∧Below w.heap.size w w':=by
 have IS:=fun (n:ByteArray) (hn:n.size≤9223372036854775807) (k:Int) (t:TypeId) (g:Nat) (wx:World) (hg:wx.heap.size=g) (hb:Below w.heap.size w wx) =>
   is_any S n [k] (some ⟨g,0,none⟩) 1 1 c0 c1 c2 (wx.alloc (.cells #[.int .i64 k] t)) B (Nat.le_trans hB (Nat.le_trans hb.size (by simp))) hn (by decide) rfl (by subst hg;exact ints_new wx (by simp) rfl) (TS.low ((hb.alloc hb.size _).mono hB) hS)
 have I1:=Hd (IS a ha 1)
 have I2:=Hd (IS a ha 2)
 have I3:=Hd (IS b hb 2)
 have P1:=Hd (fun (wx:World) (h:Below w.heap.size w wx)=>poss_any S b c0 c1 c2 wx B (Nat.le_trans hB h.size) hb hz (TS.low (h.mono hB) hS))
 have F:=Hd (fun (wx:World) (h:Below w.heap.size w wx)=>find_any S a c0 c1 c2 wx B (Nat.le_trans hB h.size) ha (TS.low (h.mono hB) hS))
 have hl1:=poss_len S b hz
 have HB:=Hd hB
 obtain ⟨A,k,e,_⟩:=sch_cells hS
 injection e with e0 e
 injection e with e1 e
 injection e with e2 e
 subst e0 e1 e2
 clear hB e ha hb hS hz IS
 have X0:=Hd (show BX w (.slice A S.defs.length k) (.string S.query) (.string S.mutation) _ from ⟨dbelow_new w _,heap_alloc_new w (.cells #[.slice A S.defs.length k,.string S.query,.string S.mutation] 24)⟩)
 have HQ:Hid (narB S a b=(a.toList == b.toList || (if isD S.defs a [1]=true then hasN (possL S b) a else (isD S.defs a [2] && (isD S.defs b [2] && hasN (findD S.defs a).1.faces b))))):=Hd rfl
 generalize narB S a b=Q at HQ ⊢
 generalize isD S.defs a [1]=x1 at I1 HQ
 generalize isD S.defs a [2]=x2 at I2 HQ
 generalize isD S.defs b [2]=x3 at I3 HQ
 generalize possL S b=ys at P1 HQ hl1
 generalize findD S.defs a=d at F HQ
 cases e1:(a.toList == b.toList) with
 | true =>
   have hQ:Q=true:=HQ.out.trans (by rw [e1];rfl)
   subst hQ
   go_enter Tryz.func46,Tryz.ntmps46
   go_wp2_with fail
   go_ret
   exact ⟨rfl,X0.out.1⟩
 | false =>
   have HQ:Hid (Q=if x1=true then hasN ys a else (x2 && (x3 && hasN d.1.faces b))):=Hd (HQ.out.trans (by rw [e1];rfl))
   go_enter Tryz.func46,Tryz.ntmps46
   go_wp2_with fail
   refine (I1.out _ _ _ (by simp) X0.out.1).mono ?_
   rintro e w1 ⟨rfl,hb1⟩
   have X1:=Hd ((X0.out.next (dbelow_new _ _)).next hb1)
   clear hb1 I1 e1 X0
   obtain ⟨z0,z1,z2⟩:=three_cells X1.out.2
   cases x1 with
   | true =>
     go_wp2_with fail
     refine (P1.out _ X1.out.1).mono ?_
     rintro e w2 ⟨A2,k2,rfl,hs2,hb2⟩
     have X2:=Hd (X1.out.next hb2)
     clear hb2 P1 X1 z0 z1 z2
     go_wp2_with fail
     refine (contains_s A2 ys.length k2 ys a w2 hl1 hs2).mono ?_
     rintro e w3 ⟨rfl,hb3⟩
     have X3:=Hd (X2.out.next hb3)
     clear hb3 X2
     go_wp2_with fail
     go_ret
     exact ⟨Blk.ret_bool HQ.out.symm,X3.out.1⟩
   | false =>
     go_wp2_with fail
     refine (I2.out _ _ _ rfl X1.out.1).mono ?_
     rintro e w2 ⟨rfl,hb2⟩
     have X2:=Hd ((X1.out.next (dbelow_new _ _)).next hb2)
     clear hb2 I2 X1 z0 z1 z2
     obtain ⟨z0,z1,z2⟩:=three_cells X2.out.2
     cases x2 with
     | false =>
       go_wp2_with fail
       go_ret
       exact ⟨Blk.ret_bool HQ.out.symm,X2.out.1⟩
     | true =>
       go_wp2_with fail
       refine (I3.out _ _ _ rfl X2.out.1).mono ?_
       rintro e w3 ⟨rfl,hb3⟩
       have X3:=Hd ((X2.out.next (dbelow_new _ _)).next hb3)
       clear hb3 I3 X2 z0 z1 z2
       obtain ⟨z0,z1,z2⟩:=three_cells X3.out.2
       cases x3 with
       | false =>
         go_wp2_with fail
         go_ret
         exact ⟨Blk.ret_bool HQ.out.symm,X3.out.1⟩
       | true =>
         go_wp2_with fail
         refine (F.out _ X3.out.1).mono ?_
         rintro e w4 ⟨d0,d1,d2,d3,d4,d5,rfl,hT,hb4⟩
         obtain ⟨Af,kf,Ax,kx,Ap,kp,Am,km,e,_,⟨hlf,hrf⟩,_⟩:=defn_cells hT
         simp only [List.cons.injEq,and_true] at e
         obtain ⟨rfl,rfl,rfl,rfl,rfl,rfl⟩:=e
         have X4:=Hd (X3.out.next hb4)
         have S4:=Hd (fun o=>(str_row (RowT.below ((dbelow_new w4 o).mono (Nat.le_trans HB.out X4.out.1.size)) hrf)).more (Nat.le_trans HB.out (Nat.le_trans X4.out.1.size (dbelow_new w4 o).size)))
         clear hb4 F X3 z0 z1 z2 hT hrf
         go_wp2_with fail
         refine (contains_s Af d.1.faces.length kf d.1.faces b _ hlf (S4.out _)).mono ?_
         rintro e w5 ⟨rfl,hb5⟩
         have X5:=Hd ((X4.out.next (dbelow_new _ _)).next hb5)
         clear hb5 X4
         go_wp2_with fail
         go_ret
         exact ⟨Blk.ret_bool HQ.out.symm,X5.out.1⟩
theorem includes_any (K l:List ByteArray) (A:Option Addr) (c:Nat) (w:World) (B:Nat) (hB:B≤w.heap.size) (hl:l.length≤9223372036854775807) (hR:RowT w (fun b=>b < B) (rowOf encStr l) A) (mb n:Nat) (D:DataW Unit) (hm:w.ownsMap Tryz.prog 9 R0 mb n D) (hD:KeysD D K) :
  Calls Tryz.prog 110 #[.map (some mb),.slice A l.length c] w fun e w'=>e=.returned (.bool (l.all (hasN K)))∧Below w.heap.size w w':=by
 have HR:=Hd hR
 have HB:=Hd hB
 have HM:=Hd hm
 have HD:=Hd hD
 clear hR hB hm hD
 go_enter Tryz.func110,Tryz.ntmps110
 go_wp2_with fail
 go_loopg [11] l.length (fun g i wx=>∃ q:Nat,q+g=l.length∧i=.int .i64 q∧Aside ((l.take q).all (hasN K)=true∧Below w.heap.size w wx))
 case atStart=>exact ⟨0,by omega,rfl,Blk.Aside.intro ⟨rfl,Below.refl _ _⟩⟩
 case round =>
  obtain ⟨q,hq,rfl,HX⟩:=hrel
  have HI:=Hd HX.out.1
  have BX:=Hd HX.out.2
  clear HX
  cases gk with
  | zero =>
    obtain rfl:q=l.length:=by omega
    have HA:=Hd (all_take_end HI.out)
    go_wp2_with fail
    go_ret
    exact ⟨by rw [HA.out];rfl,BX.out⟩
  | succ g =>
    have hqn:q < l.length:=by omega
    have hqn':(q:Int) < (l.length:Int):=by omega
    obtain ⟨x,hx⟩:∃ x,l[q]? = some x:=⟨_,List.getElem?_eq_getElem hqn⟩
    obtain ⟨b,o,cs,rfl,hb,hc,hT⟩:=rowOf_at 1 len_str HR.out hx
    have HBL:=Hd (Nat.lt_of_lt_of_le hb HB.out)
    obtain ⟨rfl,hsz⟩:=str_one hT
    have h0:w.cell? ⟨b,o+q,none⟩=some (.string x):=by have h:=hc 0 _ rfl;rw [Nat.mul_one] at h;exact h
    have g0:=(BX.out.cell (p:=⟨b,o+q,none⟩) HBL.out).trans h0
    have hkey:=WideMaps.keyOf_string_mk (P:=Tryz.prog) Tryz.underlying9 (s:=x) (by unfold maxLen;omega)
    have HN:=Hd (fun h=>all_take_next (p:=hasN K) HI.out hx h)
    have HN':=Hd (fun h=>all_take_no (p:=hasN K) hx h)
    have MX:=Hd (map_on HM.out BX.out)
    have HH:=HD.out.2.1 x
    generalize hasN K x=f at HH HN HN'
    clear hx hb hc hT h0
    cases f with
    | false =>
      have HA:=Hd (HN'.out rfl)
      go_wp2_with (at_lookup;refine wpList_lookup_own_ok _ rfl _ _ 117 rfl 9 9 (Maps.string_keyed Tryz.underlying9) Tryz.underlying117 R0 (by rfl) (.lit (.bool true)) [] rfl mb n D rfl MX.out _ _ rfl hkey ?_;intro v ps hv;clear hv;rw [HH])
      go_ret
      exact ⟨by rw [HA.out];rfl,BX.out⟩
    | true =>
      have HA:=Hd (HN.out rfl)
      go_wp2_with (at_lookup;refine wpList_lookup_own_ok _ rfl _ _ 117 rfl 9 9 (Maps.string_keyed Tryz.underlying9) Tryz.underlying117 R0 (by rfl) (.lit (.bool true)) [] rfl mb n D rfl MX.out _ _ rfl hkey ?_;intro v ps hv;clear hv;rw [HH])
      go_roundg g
      case measure=>omega
      case rel=>exact ⟨q+1,by omega,by go_num,Blk.Aside.intro ⟨HA.out,BX.out⟩⟩
def face5B (D:List DefnT) (K:List ByteArray) (nm s:ByteArray):Bool:=(findD D s).1.kind == 2 && (!(s.toList == nm.toList) && (findD D s).1.faces.all (hasN K))
def un5B (D:List DefnT) (d:DefnT):Bool:=d.faces.all (face5B D (onceL (d.faces.map fun x=>x)) d.name)
def rule5B (S:SchT):Bool:=S.defs.all (un5B S.defs)
theorem row_names {w:World} {P:Nat→Prop} {l:List ByteArray} {A:Option Addr} (h:RowT w P (rowOf encStr l) A):∀ x,x ∈ l→x.size≤maxLen:=by
 intro x hx
 obtain ⟨i,hi⟩:=List.getElem?_of_mem hx
 obtain ⟨_,_,_,_,_,_,hT⟩:=rowOf_at 1 len_str h hi
 obtain ⟨_,hsz⟩:=str_one hT
 unfold maxLen
 omega
theorem rule5_any (S:SchT) (hlen:∀ d,d ∈ S.defs→d.faces.length < maxLen) (c0 c1 c2:Value) (w:World) (B:Nat) (hB:B≤w.heap.size) (hz:SlimS S) (hS:TS w (fun b=>b < B) (encSch S) [c0,c1,c2]) :
  Calls Tryz.prog 58 #[.agg #[c0,c1,c2]] w fun e w'=>e=.returned (.bool (rule5B S))∧Below w.heap.size w w':=by
 have FI:=Hd (fun (s:ByteArray) (hs:s.size≤9223372036854775807) (wx:World) (hb:Below w.heap.size w wx)=>Find_any S s c0 c1 c2 wx B (Nat.le_trans hB hb.size) hs hz (TS.low (hb.mono hB) hS))
 obtain ⟨A,k,e,hl,hR⟩:=sch_cells hS
 injection e with e0 e
 injection e with e1 e
 injection e with e2 e
 subst e0 e1 e2
 have HR:=Hd hR
 have HB:=Hd hB
 have HL:=Hd hlen
 have B1:=Hd (dbelow_new w (.cells #[.slice A S.defs.length k,.string S.query,.string S.mutation] 24))
 have Y1:=Hd (heap_alloc_new w (.cells #[.slice A S.defs.length k,.string S.query,.string S.mutation] 24))
 have HE:Hid (rule5B S=S.defs.all (un5B S.defs)):=Hd rfl
 clear hB hS hR hz e hlen
 go_enter Tryz.func58,Tryz.ntmps58
 go_upto_region 1 with fail
 generalize w.alloc (.cells #[.slice A S.defs.length k,.string S.query,.string S.mutation] 24)=w1 at B1 Y1 ⊢
 obtain ⟨y0,y1,y2⟩:=three_cells Y1.out
 go_wp2_with fail
 go_loopg [13] S.defs.length (fun g i wx=>∃ q:Nat,q+g=S.defs.length∧i=.int .i64 q∧Aside ((S.defs.take q).all (un5B S.defs)=true∧Below w.heap.size w wx∧wx.heap[w.heap.size]? = some (.cells #[.slice A S.defs.length k,.string S.query,.string S.mutation] 24 (0,0))))
 case atStart=>exact ⟨0,by omega,rfl,Blk.Aside.intro ⟨rfl,B1.out,Y1.out⟩⟩
 case round =>
  obtain ⟨q,hq,rfl,HX⟩:=hrel
  have HI:=Hd HX.out.1
  have BX:=Hd HX.out.2.1
  have YX:=Hd HX.out.2.2
  clear HX B1 Y1 y0 y1 y2
  cases gk with
  | zero =>
    obtain rfl:q=S.defs.length:=by omega
    have HA:=Hd (all_take_end HI.out)
    go_wp2_with fail
    go_ret
    exact ⟨by rw [HE.out,HA.out];rfl,BX.out⟩
  | succ g =>
    have hqn:q < S.defs.length:=by omega
    have hqn':(q:Int) < (S.defs.length:Int):=by omega
    obtain ⟨d,hx⟩:∃ x,S.defs[q]? = some x:=⟨_,List.getElem?_eq_getElem hqn⟩
    have hfz:=HL.out d (List.mem_of_getElem? hx)
    obtain ⟨b,o,cs,rfl,hb,hc,hT⟩:=rowOf_at 6 defn_len HR.out hx
    have HBL:=Hd (Nat.lt_of_lt_of_le hb HB.out)
    obtain ⟨Af,kf,Ax,kx,Ap,kp,Am,km,rfl,_,⟨hfl,hf⟩,_⟩:=defn_cells hT
    have g0:=(BX.out.cell (p:=⟨b,o+q*6,none⟩) HBL.out).trans (hc 0 _ rfl)
    have g1:=(BX.out.cell (p:=⟨b,o+q*6+1,none⟩) HBL.out).trans (hc 1 _ rfl)
    have g2:=(BX.out.cell (p:=⟨b,o+q*6+2,none⟩) HBL.out).trans (hc 2 _ rfl)
    have g3:=(BX.out.cell (p:=⟨b,o+q*6+3,none⟩) HBL.out).trans (hc 3 _ rfl)
    have g4:=(BX.out.cell (p:=⟨b,o+q*6+4,none⟩) HBL.out).trans (hc 4 _ rfl)
    have g5:=(BX.out.cell (p:=⟨b,o+q*6+5,none⟩) HBL.out).trans (hc 5 _ rfl)
    have HN:=Hd (fun h=>all_take_next (p:=un5B S.defs) HI.out hx h)
    have HM:=Hd (fun h=>all_take_no (p:=un5B S.defs) hx h)
    have HU:Hid (un5B S.defs d=d.faces.all (face5B S.defs (onceL (d.faces.map fun x=>x)) d.name)):=Hd rfl
    have HP:=Hd hf
    have BY:=Hd (fun (wx:World) (hb:Below w.heap.size w wx)=>bynameStr_any 105 (fun x=>x) d.faces Af kf wx B (Nat.le_trans HB.out hb.size) hfz (RowT.below (hb.mono HB.out) hf) (Go.Proofs.enters_of Tryz.func105 (by kernel_rfl) rfl) (fun x _ W _=>itself_any x W) (row_names hf))
    generalize onceL (d.faces.map fun x=>x)=K at BY HU
    generalize un5B S.defs d=ud at HN HM HU
    clear hx hb hc hT hf hfz
    go_upto_region 4 with fail
    clear g0 g1 g2 g3 g4 g5
    have bn:=dbelow_new wr (.cells #[.int .i64 d.kind,.string d.name,.slice Af d.faces.length kf,.slice Ax d.fields.length kx,.slice Ap d.parts.length kp,.slice Am d.params.length km] 37)
    have B2:=Hd (BX.out.trans (bn.mono BX.out.size))
    have Y2:=Hd (heap_alloc_new wr (.cells #[.int .i64 d.kind,.string d.name,.slice Af d.faces.length kf,.slice Ax d.fields.length kx,.slice Ap d.parts.length kp,.slice Am d.params.length km] 37))
    have S2:=Hd ((bn.block _ (Array.getElem?_eq_some_iff.1 YX.out).1).trans YX.out)
    generalize wr.alloc (.cells #[.int .i64 d.kind,.string d.name,.slice Af d.faces.length kf,.slice Ax d.fields.length kx,.slice Ap d.parts.length kp,.slice Am d.params.length km] 37)=w2 at B2 Y2 S2 bn ⊢
    generalize wr.heap.size=g4 at Y2 ⊢
    clear bn BX YX
    obtain ⟨⟨y0,y1,y2,y3,y4,y5⟩,_⟩:=six_cells Y2.out
    go_wp2_with fail
    refine (BY.out _ B2.out).mono ?_
    rintro e w3 ⟨rfl,⟨D,hm,hD⟩,hb⟩
    have HD:=Hd hD
    have M3:=Hd hm
    have B3:=Hd (B2.out.trans (hb.mono B2.out.size))
    have Y3:=Hd ((hb.block _ (Array.getElem?_eq_some_iff.1 Y2.out).1).trans Y2.out)
    have S3:=Hd ((hb.block _ (Array.getElem?_eq_some_iff.1 S2.out).1).trans S2.out)
    generalize w2.heap.size=mb at M3 ⊢
    clear hb hm hD y0 y1 y2 y3 y4 y5 Y2 B2 S2
    obtain ⟨⟨y0,y1,y2,y3,y4,y5⟩,_⟩:=six_cells Y3.out
    go_wp2_with fail
    go_loopg [23] d.faces.length (fun g2 i wx=>∃ z:Nat,z+g2=d.faces.length∧i=.int .i64 z∧Aside ((d.faces.take z).all (face5B S.defs K d.name)=true∧Below w.heap.size w wx∧wx.heap[w.heap.size]? = some (.cells #[.slice (some ⟨b,o,none⟩) S.defs.length k,.string S.query,.string S.mutation] 24 (0,0))∧wx.heap[g4]? = some (.cells #[.int .i64 d.kind,.string d.name,.slice Af d.faces.length kf,.slice Ax d.fields.length kx,.slice Ap d.parts.length kp,.slice Am d.params.length km] 37 (0,0))∧wx.ownsMap Tryz.prog 9 R0 mb d.faces.length D))
    case atStart=>exact ⟨0,by omega,rfl,Blk.Aside.intro ⟨rfl,B3.out,S3.out,Y3.out,M3.out⟩⟩
    case round =>
     obtain ⟨z,hz,rfl,HX⟩:=hrel
     have HJ:=Hd HX.out.1
     have BX:=Hd HX.out.2.1
     have SX:=Hd HX.out.2.2.1
     have YX:=Hd HX.out.2.2.2.1
     have MX:=Hd HX.out.2.2.2.2
     clear HX B3 Y3 S3 M3 y0 y1 y2 y3 y4 y5
     cases gk with
     | zero =>
       obtain rfl:z=d.faces.length:=by omega
       have HA:=Hd (HN.out (by rw [HU.out,all_take_end HJ.out]))
       go_wp2_with fail
       go_roundg g
       case measure=>omega
       case rel=>exact ⟨q+1,by omega,by go_num,Blk.Aside.intro ⟨HA.out,BX.out,SX.out⟩⟩
     | succ g2 =>
       have hzn:z < d.faces.length:=by omega
       have hzn':(z:Int) < (d.faces.length:Int):=by omega
       obtain ⟨s,hs⟩:∃ x,d.faces[z]? = some x:=⟨_,List.getElem?_eq_getElem hzn⟩
       obtain ⟨b2,o2,cs2,rfl,hb2,hc2,hT2⟩:=rowOf_at 1 len_str HP.out hs
       obtain ⟨rfl,hsz⟩:=str_one hT2
       have h0:w.cell? ⟨b2,o2+z,none⟩=some (.string s):=by have h:=hc2 0 _ rfl;rw [Nat.mul_one] at h;exact h
       have g0:=(BX.out.cell (p:=⟨b2,o2+z,none⟩) (Nat.lt_of_lt_of_le hb2 HB.out)).trans h0
       have FX:=Hd (FI.out s hsz)
       have HN2:=Hd (fun h=>all_take_next (p:=face5B S.defs K d.name) HJ.out hs h)
       have HM2:=Hd (fun h=>all_take_no (p:=face5B S.defs K d.name) hs h)
       have HF:Hid (face5B S.defs K d.name s=((findD S.defs s).1.kind == 2 && (!(s.toList == d.name.toList) && (findD S.defs s).1.faces.all (hasN K)))):=Hd rfl
       generalize face5B S.defs K d.name s=fb at HN2 HM2 HF
       generalize findD S.defs s=fd at FX HF
       obtain ⟨fd,ok⟩:=fd
       dsimp only at HF
       clear hs hb2 hc2 hT2 h0 hsz
       obtain ⟨y0,y1,y2⟩:=three_cells SX.out
       go_wp2_with fail
       refine (FX.out _ BX.out).mono ?_
       rintro e w4 ⟨d0,d1,d2,d3,d4,d5,rfl,hT,hb⟩
       have B4:=Hd (BX.out.trans (hb.mono BX.out.size))
       have S4:=Hd ((hb.block _ (Array.getElem?_eq_some_iff.1 SX.out).1).trans SX.out)
       have Y4:=Hd ((hb.block _ (Array.getElem?_eq_some_iff.1 YX.out).1).trans YX.out)
       have M4:=Hd (map_on MX.out hb)
       obtain ⟨Bf,jf,Bx,jx,Bp,jp,Bm,jm,e,_,⟨hjl,hj⟩,_⟩:=defn_cells hT
       simp only [List.cons.injEq,and_true] at e
       obtain ⟨rfl,rfl,rfl,rfl,rfl,rfl⟩:=e
       clear hb hT y0 y1 y2 g0 BX SX YX MX FX
       go_upto_region 9 with fail
       have bn:=dbelow_new w4 (.cells #[.int .i64 fd.kind,.string fd.name,.slice Bf fd.faces.length jf,.slice Bx fd.fields.length jx,.slice Bp fd.parts.length jp,.slice Bm fd.params.length jm] 37)
       have B5:=Hd (B4.out.trans (bn.mono B4.out.size))
       have F5:=Hd (heap_alloc_new w4 (.cells #[.int .i64 fd.kind,.string fd.name,.slice Bf fd.faces.length jf,.slice Bx fd.fields.length jx,.slice Bp fd.parts.length jp,.slice Bm fd.params.length jm] 37))
       have S5:=Hd ((bn.block _ (Array.getElem?_eq_some_iff.1 S4.out).1).trans S4.out)
       have Y5:=Hd ((bn.block _ (Array.getElem?_eq_some_iff.1 Y4.out).1).trans Y4.out)
       have M5:=Hd (map_on M4.out bn)
       have INC:=Hd (includes_any K fd.faces Bf jf (w4.alloc (.cells #[.int .i64 fd.kind,.string fd.name,.slice Bf fd.faces.length jf,.slice Bx fd.fields.length jx,.slice Bp fd.parts.length jp,.slice Bm fd.params.length jm] 37)) w4.heap.size bn.size hjl (RowT.below bn hj) mb d.faces.length D M5.out HD.out)
       generalize w4.alloc (.cells #[.int .i64 fd.kind,.string fd.name,.slice Bf fd.faces.length jf,.slice Bx fd.fields.length jx,.slice Bp fd.parts.length jp,.slice Bm fd.params.length jm] 37)=w5 at B5 F5 S5 Y5 M5 INC bn ⊢
       generalize w4.heap.size=g8 at F5 ⊢
       clear bn hj B4 S4 Y4 M4
       obtain ⟨⟨z0,z1,z2,z3,z4,z5⟩,_⟩:=six_cells F5.out
       obtain ⟨⟨y0,y1,y2,y3,y4,y5⟩,_⟩:=six_cells Y5.out
       generalize hiv:fd.faces.all (hasN K)=iv at INC HF
       clear hiv
       cases ek:(fd.kind == 2) with
       | false =>
         have ek':(fd.kind != 2)=true:=by show (!(fd.kind == 2))=true;rw [ek];rfl
         have HA:=Hd (HM.out (by rw [HU.out,HM2.out (by rw [HF.out,ek];rfl)]))
         go_wp2_with fail
         go_ret
         exact ⟨by rw [HE.out,HA.out];rfl,B5.out⟩
       | true =>
         have ek':(fd.kind != 2)=false:=by show (!(fd.kind == 2))=false;rw [ek];rfl
         cases en:(s.toList == d.name.toList) with
         | true =>
           have HA:=Hd (HM.out (by rw [HU.out,HM2.out (by rw [HF.out,ek,en];rfl)]))
           go_wp2_with fail
           go_ret
           exact ⟨by rw [HE.out,HA.out];rfl,B5.out⟩
         | false =>
           rw [ek,en] at HF
           go_wp2_with fail
           refine INC.out.mono ?_
           rintro e w6 ⟨rfl,hb⟩
           have B6:=Hd (B5.out.trans (hb.mono B5.out.size))
           have S6:=Hd ((hb.block _ (Array.getElem?_eq_some_iff.1 S5.out).1).trans S5.out)
           have Y6:=Hd ((hb.block _ (Array.getElem?_eq_some_iff.1 Y5.out).1).trans Y5.out)
           have M6:=Hd (map_on M5.out hb)
           clear hb y0 y1 y2 y3 y4 y5 z0 z1 z2 z3 z4 z5 B5 F5 S5 Y5 M5
           cases iv with
           | false =>
             have HA:=Hd (HM.out (by rw [HU.out,HM2.out (by rw [HF.out];rfl)]))
             go_wp2_with fail
             go_ret
             exact ⟨by rw [HE.out,HA.out];rfl,B6.out⟩
           | true =>
             have HA:=Hd (HN2.out (by rw [HF.out];rfl))
             go_wp2_with fail
             go_roundg g2
             case measure=>omega
             case rel=>exact ⟨z+1,by omega,by go_num,Blk.Aside.intro ⟨HA.out,B6.out,S6.out,Y6.out,M6.out⟩⟩
def reqB (p:VarT):Bool:=p.tl == 0 && isB p.tn.data.toList p.tl p.tm
def reqL:List VarT→List ByteArray
 | []=>[]
 | p :: t=>if reqB p=true then p.tn :: reqL t else reqL t
theorem req_snoc (l:List VarT) (p:VarT):reqL (l++[p])=reqL l++(if reqB p=true then [p.tn] else []):=by
 induction l with
 | nil =>
   show reqL [p]=[]++_
   unfold reqL reqL
   split<;>rfl
 | cons a t ih=>rw [List.cons_append,reqL,reqL,ih];split<;>rfl
theorem req_len (l:List VarT):(reqL l).length≤l.length:=by
 induction l with
 | nil=>exact Nat.le_refl _
 | cons a t ih=>rw [reqL];split<;>simp<;>omega
theorem req_take {l:List VarT} {q:Nat} {p:VarT} (h:l[q]? = some p):reqL (l.take (q+1))=reqL (l.take q)++(if reqB p=true then [p.tn] else []):=by
 rw [List.take_add_one,h]
 exact req_snoc _ _
theorem required_any (l:List VarT) (A:Option Addr) (c:Nat) (w:World) (B:Nat) (hB:B≤w.heap.size) (hz:l.length*16≤140737488355328) (hR:RowT w (fun b=>b < B) (rowOf encVar l) A) :
  Calls Tryz.prog 113 #[.slice A l.length c] w (RowS (reqL l) w):=by
 obtain ⟨i0,hi,hz0,hz1,hz2⟩:=info_parts1 info_txt
 have HB0:=Hd hB
 have HR:=Hd hR
 have HZ:=Hd hz
 have hl:l.length≤9223372036854775807:=by omega
 clear hB hR hz
 go_enter Tryz.func113,Tryz.ntmps113
 go_wp2_with fail
 go_loopg [3,8] l.length (fun g out i wx=>∃ q:Nat,q+g=l.length∧i=.int .i64 q∧Aside (SR w.heap.size wx out (reqL (l.take q))∧Below w.heap.size w wx))
 case atStart=>exact ⟨0,by omega,rfl,Blk.Aside.intro ⟨by rw [List.take_zero];exact SR.nil _ _,Below.refl _ _⟩⟩
 case round =>
  obtain ⟨q,hq,rfl,HA⟩:=hrel
  obtain ⟨hO,hb⟩:=HA.out
  have HO:=Hd hO
  have HBB:=Hd hb
  clear HA hO hb
  cases gk with
  | zero =>
    obtain rfl:q=l.length:=by omega
    have hE:Hid (SR w.heap.size wr u3 (reqL l)):=Hd (by have:=HO.out;rwa [List.take_length] at this)
    clear HO
    go_wp2_with fail
    go_ret
    exact ⟨_,rfl,hE.out,HBB.out⟩
  | succ g =>
    have hqn:q < l.length:=by omega
    have hqn':(q:Int) < (l.length:Int):=by omega
    obtain ⟨p,hx⟩:∃ x,l[q]? = some x:=⟨_,List.getElem?_eq_getElem hqn⟩
    obtain ⟨b,o,cs,rfl,hb,hc,hT⟩:=rowOf_at 10 len_par HR.out hx
    have HBL:=Hd (Nat.lt_of_lt_of_le hb HB0.out)
    obtain ⟨A3,k3,A4,k4,rfl,_,htn⟩:=var_cells hT
    have g0:=(HBB.out.cell (p:=⟨b,o+q*10,none⟩) HBL.out).trans (hc 0 _ rfl)
    have g1:=(HBB.out.cell (p:=⟨b,o+q*10+1,none⟩) HBL.out).trans (hc 1 _ rfl)
    have g2:=(HBB.out.cell (p:=⟨b,o+q*10+2,none⟩) HBL.out).trans (hc 2 _ rfl)
    have g3:=(HBB.out.cell (p:=⟨b,o+q*10+3,none⟩) HBL.out).trans (hc 3 _ rfl)
    have g4:=(HBB.out.cell (p:=⟨b,o+q*10+4,none⟩) HBL.out).trans (hc 4 _ rfl)
    have g5:=(HBB.out.cell (p:=⟨b,o+q*10+5,none⟩) HBL.out).trans (hc 5 _ rfl)
    have g6:=(HBB.out.cell (p:=⟨b,o+q*10+6,none⟩) HBL.out).trans (hc 6 _ rfl)
    have g7:=(HBB.out.cell (p:=⟨b,o+q*10+7,none⟩) HBL.out).trans (hc 7 _ rfl)
    have g8:=(HBB.out.cell (p:=⟨b,o+q*10+8,none⟩) HBL.out).trans (hc 8 _ rfl)
    have g9:=(HBB.out.cell (p:=⟨b,o+q*10+9,none⟩) HBL.out).trans (hc 9 _ rfl)
    have hN:=Hd (req_take hx)
    have HU:Hid (reqB p=(p.tl == 0 && isB p.tn.data.toList p.tl p.tm)):=Hd rfl
    have IS:=Hd (fun (wx:World)=>wis_any p.tn p.tl p.tm wx htn)
    clear hx hb hc hT
    go_upto_region 5 with fail
    clear g0 g1 g2 g3 g4 g5 g6 g7 g8 g9
    have bn:=dbelow_new wr (.cells #[.string p.name,.string p.tn,.int .i64 p.tl,.int .i64 p.tm,.bool p.has,.int .i64 p.v.kd,.int .i64 p.v.nn,.string p.v.ss,.slice A3 p.v.ls.len k3,.slice A4 p.v.ms.len k4] 60)
    have BX:=Hd bn
    have Y2:=Hd (heap_alloc_new wr (.cells #[.string p.name,.string p.tn,.int .i64 p.tl,.int .i64 p.tm,.bool p.has,.int .i64 p.v.kd,.int .i64 p.v.nn,.string p.v.ss,.slice A3 p.v.ls.len k3,.slice A4 p.v.ms.len k4] 60))
    have hsz:Hid (wr.heap.size+1=(wr.alloc (.cells #[.string p.name,.string p.tn,.int .i64 p.tl,.int .i64 p.tm,.bool p.has,.int .i64 p.v.kd,.int .i64 p.v.nn,.string p.v.ss,.slice A3 p.v.ls.len k3,.slice A4 p.v.ms.len k4] 60)).heap.size):=Hd (by simp)
    generalize wr.alloc (.cells #[.string p.name,.string p.tn,.int .i64 p.tl,.int .i64 p.tm,.bool p.has,.int .i64 p.v.kd,.int .i64 p.v.nn,.string p.v.ss,.slice A3 p.v.ls.len k3,.slice A4 p.v.ms.len k4] 60)=wz at BX Y2 hsz ⊢
    clear bn
    obtain ⟨⟨y0,y1,y2,y3,y4,y5,y6,y7,y8,y9⟩,_⟩:=ten_cells Y2.out
    cases e1:(p.tl == 0) with
    | false =>
      have hbe:Hid (reqL (l.take (q+1))=reqL (l.take q)):=Hd (by rw [hN.out,HU.out,e1];simp)
      go_wp2_with fail
      go_roundg g
      case measure=>omega
      case rel=>exact ⟨q+1,by omega,by go_num,Blk.Aside.intro ⟨by rw [hbe.out];exact HO.out.low BX.out,HBB.out.trans (BX.out.mono HBB.out.size)⟩⟩
    | true =>
      rw [e1] at HU
      generalize isB p.tn.data.toList p.tl p.tm=ib at HU IS
      go_wp2_with fail
      refine (IS.out _).mono ?_
      rintro e w3 ⟨rfl,hb3⟩
      have B3:=Hd (BX.out.trans (hb3.mono BX.out.size))
      have hlw:wr.heap.size < wz.heap.size:=by rw [← hsz.out];exact Nat.lt_succ_self _
      have z1:=(hb3.cell (p:=⟨wr.heap.size,1,none⟩) hlw).trans y1
      have hs3:=hb3.size
      clear y0 y1 y2 y3 y4 y5 y6 y7 y8 y9 hb3 IS Y2
      cases ib with
      | false =>
        have hbe:Hid (reqL (l.take (q+1))=reqL (l.take q)):=Hd (by rw [hN.out,HU.out];simp)
        clear z1
        go_wp2_with fail
        go_roundg g
        case measure=>omega
        case rel=>exact ⟨q+1,by omega,by go_num,Blk.Aside.intro ⟨by rw [hbe.out];exact HO.out.low B3.out,HBB.out.trans (B3.out.mono HBB.out.size)⟩⟩
      | true =>
        have hbe:Hid (reqL (l.take (q+1))=reqL (l.take q)++[p.tn]):=Hd (by rw [hN.out,HU.out];simp)
        have hlb:(reqL (l.take q)).length≤q:=Nat.le_trans (req_len _) (by simp;omega)
        obtain ⟨Ao,co,rfl,_⟩:=HO.out.strs
        have O3:=Hd ((HO.out.low B3.out).low (dbelow_new w3 (.cells #[.string p.tn] 9)))
        have hZ:=HZ.out
        have hso:=HBB.out.size
        go_wp2_with (at_builtin;refine wpList_append_lies _ rfl _ _ 32 rfl w.heap.size 9 i0 (.string ⟨#[]⟩) 1 16 Tryz.underlying32 hi hz0 hz1 hz2 rfl (by decide) _ (reqL (l.take q)).length ((reqL (l.take q)).map .string) rfl O3.out _ 1 1 [.string p.tn] rfl rfl (fun j u hj=>World.news_of_block (heap_alloc_new _ _) j u hj) (by intro y hy;simp at hy;rcases hy with rfl<;>rfl) (by decide) (by unfold maxLen;omega) (by omega) (by simp;omega) _ rfl ?_;intro gg cap2 w4 hown4 hgrow hat hlt4;have HG4:=Hd hgrow;have HO4:=Hd hown4;have HT4:=Hd hat;clear hgrow hown4 hat)
        have B4:=Hd (below_grown (B:=w.heap.size) ((HBB.out.trans (B3.out.mono HBB.out.size)).alloc (Nat.le_trans HBB.out.size B3.out.size) (.cells #[.string p.tn] 9)) HG4.out (by simp;omega) (fun b hb=>HO.out.own b hb))
        go_roundg g
        case measure=>omega
        case rel=>exact ⟨q+1,by omega,by go_num,Blk.Aside.intro ⟨by rw [hbe.out];unfold SR;rw [List.length_append,List.map_append];exact HO4.out,B4.out⟩⟩
end Go.Proofs.YtaekdfcpbepepaaGreatDoor
