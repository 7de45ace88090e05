/- The walks of wrap.Sub and of the document's own SubType, without Is. -/
import Derived.Test.YtaekdfcpbepepaaGreatDoorQb40
set_option maxRecDepth 100000
set_option maxHeartbeats 16000000
namespace Go.Proofs.YtaekdfcpbepepaaGreatDoor
open Go.RowKit
def subB (n:ByteArray) (l m:Int) (n':ByteArray) (l' m':Int):Bool:=rightT n.data.toList l m && (rightT n'.data.toList l' m' && (n.toList == n'.toList && (l == l' && (bits .andNot .i64 m' m == 0))))
theorem wlt_of_heap {w:World} {b:Nat} {o:Obj} (h:w.heap[b]? = some o):b < w.heap.size:=(Array.getElem?_eq_some_iff.1 h).1
theorem wsub_any (n:ByteArray) (l m:Int) (n':ByteArray) (l' m':Int) (w:World) (hn:n.size≤9223372036854775807) (hn':n'.size≤9223372036854775807):Calls Tryz.prog 45 #[.agg #[.string n,.int .i64 l,.int .i64 m],.agg #[.string n',.int .i64 l',.int .i64 m']] w fun e w'=>e=.returned (.bool (subB n l m n' l' m'))∧Below w.heap.size w w':=by
 have HR:=fun w=>Hd (wright_any n l m w hn)
 have HS:=fun w=>Hd (wright_any n' l' m' w hn')
 cases hr:rightT n.data.toList l m
 · have hv:Hid (subB n l m n' l' m'=false):=Hd (by simp [subB,hr])
   rw [hr] at HR
   clear hr
   go_enter Tryz.func45,Tryz.ntmps45
   go_wp2_with fail
   refine (HR _).out.mono ?_
   rintro e w2 ⟨rfl,hb2⟩
   obtain ⟨b0,b1,HB⟩:=wtwo_new hb2
   obtain ⟨a0,a1,a2,g0,g1,g2⟩:=ty_cells b0
   obtain ⟨c0,c1,c2,f0,f1,f2⟩:=ty_cells b1
   have HB':=Hd HB
   clear b0 b1 HB hb2 HR
   go_wp2_with fail
   go_ret
   exact ⟨ret_bb hv.out.symm,HB'.out⟩
 · rw [hr] at HR
   cases hs:rightT n'.data.toList l' m'
   · have hv:Hid (subB n l m n' l' m'=false):=Hd (by simp [subB,hs])
     rw [hs] at HS
     clear hr hs
     go_enter Tryz.func45,Tryz.ntmps45
     go_wp2_with fail
     refine (HR _).out.mono ?_
     rintro e w2 ⟨rfl,hb2⟩
     obtain ⟨b0,b1,HB⟩:=wtwo_new hb2
     obtain ⟨a0,a1,a2,g0,g1,g2⟩:=ty_cells b0
     obtain ⟨c0,c1,c2,f0,f1,f2⟩:=ty_cells b1
     have H0:=Hd b0
     have H1:=Hd b1
     have HB':=Hd HB
     clear b0 b1 HB hb2 HR
     go_wp2_with fail
     refine (HS _).out.mono ?_
     rintro e w3 ⟨rfl,hb3⟩
     obtain ⟨a0,a1,a2,g0,g1,g2⟩:=ty_cells ((hb3.block w.heap.size (wlt_of_heap H0.out)).trans H0.out)
     obtain ⟨c0,c1,c2,f0,f1,f2⟩:=ty_cells ((hb3.block (w.heap.size+1) (wlt_of_heap H1.out)).trans H1.out)
     have HB3:=Hd (HB'.out.trans (hb3.mono HB'.out.size))
     clear hb3 HS
     go_wp2_with fail
     go_ret
     exact ⟨ret_bb hv.out.symm,HB3.out⟩
   · rw [hs] at HS
     have hv:Hid (subB n l m n' l' m'=(n.toList == n'.toList && (l == l' && (bits .andNot .i64 m' m == 0)))):=Hd (by simp [subB,hr,hs])
     clear hr hs
     obtain ⟨t,ht⟩:∃ t,(n.toList == n'.toList)=t:=⟨_,rfl⟩
     obtain ⟨u,hu⟩:∃ u,(l == l')=u:=⟨_,rfl⟩
     obtain ⟨v,hv'⟩:∃ v,(bits .andNot .i64 m' m == 0)=v:=⟨_,rfl⟩
     rw [ht,hu,hv'] at hv
     cases t
     ·
       go_enter Tryz.func45,Tryz.ntmps45
       go_wp2_with fail
       refine (HR _).out.mono ?_
       rintro e w2 ⟨rfl,hb2⟩
       obtain ⟨b0,b1,HB⟩:=wtwo_new hb2
       obtain ⟨a0,a1,a2,g0,g1,g2⟩:=ty_cells b0
       obtain ⟨c0,c1,c2,f0,f1,f2⟩:=ty_cells b1
       have H0:=Hd b0
       have H1:=Hd b1
       have HB':=Hd HB
       clear b0 b1 HB hb2 HR
       go_wp2_with fail
       refine (HS _).out.mono ?_
       rintro e w3 ⟨rfl,hb3⟩
       obtain ⟨a0,a1,a2,g0,g1,g2⟩:=ty_cells ((hb3.block w.heap.size (wlt_of_heap H0.out)).trans H0.out)
       obtain ⟨c0,c1,c2,f0,f1,f2⟩:=ty_cells ((hb3.block (w.heap.size+1) (wlt_of_heap H1.out)).trans H1.out)
       have HB3:=Hd (HB'.out.trans (hb3.mono HB'.out.size))
       clear hb3 HS
       go_wp2_with fail
       go_ret
       exact ⟨ret_bb hv.out.symm,HB3.out⟩
     · cases u
       ·
         go_enter Tryz.func45,Tryz.ntmps45
         go_wp2_with fail
         refine (HR _).out.mono ?_
         rintro e w2 ⟨rfl,hb2⟩
         obtain ⟨b0,b1,HB⟩:=wtwo_new hb2
         obtain ⟨a0,a1,a2,g0,g1,g2⟩:=ty_cells b0
         obtain ⟨c0,c1,c2,f0,f1,f2⟩:=ty_cells b1
         have H0:=Hd b0
         have H1:=Hd b1
         have HB':=Hd HB
         clear b0 b1 HB hb2 HR
         go_wp2_with fail
         refine (HS _).out.mono ?_
         rintro e w3 ⟨rfl,hb3⟩
         obtain ⟨a0,a1,a2,g0,g1,g2⟩:=ty_cells ((hb3.block w.heap.size (wlt_of_heap H0.out)).trans H0.out)
         obtain ⟨c0,c1,c2,f0,f1,f2⟩:=ty_cells ((hb3.block (w.heap.size+1) (wlt_of_heap H1.out)).trans H1.out)
         have HB3:=Hd (HB'.out.trans (hb3.mono HB'.out.size))
         clear hb3 HS
         go_wp2_with fail
         go_ret
         exact ⟨ret_bb hv.out.symm,HB3.out⟩
       · cases v
         all_goals
          go_enter Tryz.func45,Tryz.ntmps45
          go_wp2_with fail
          refine (HR _).out.mono ?_
          rintro e w2 ⟨rfl,hb2⟩
          obtain ⟨b0,b1,HB⟩:=wtwo_new hb2
          obtain ⟨a0,a1,a2,g0,g1,g2⟩:=ty_cells b0
          obtain ⟨c0,c1,c2,f0,f1,f2⟩:=ty_cells b1
          have H0:=Hd b0
          have H1:=Hd b1
          have HB':=Hd HB
          clear b0 b1 HB hb2 HR
          go_wp2_with fail
          refine (HS _).out.mono ?_
          rintro e w3 ⟨rfl,hb3⟩
          obtain ⟨a0,a1,a2,g0,g1,g2⟩:=ty_cells ((hb3.block w.heap.size (wlt_of_heap H0.out)).trans H0.out)
          obtain ⟨c0,c1,c2,f0,f1,f2⟩:=ty_cells ((hb3.block (w.heap.size+1) (wlt_of_heap H1.out)).trans H1.out)
          have HB3:=Hd (HB'.out.trans (hb3.mono HB'.out.size))
          clear hb3 HS
          go_wp2_with fail
          go_ret
          exact ⟨ret_bb hv.out.symm,HB3.out⟩
theorem nil_row {w:World} {P:Nat→Prop} {α:Type} {f:α→TrS} {A:Option Addr} : RowT w P (rowOf f []) A:=by rw [rowOf];unfold RowT;trivial
theorem ok_sz {s:ByteArray} (h:s.size≤9223372036854775807):okV (.string s):=h
theorem four_new (w:World) (o1 o2 o3 o4:Obj):((((w.alloc o1).alloc o2).alloc o3).alloc o4).heap[w.heap.size]? = some o1∧((((w.alloc o1).alloc o2).alloc o3).alloc o4).heap[w.heap.size+1]? = some o2∧((((w.alloc o1).alloc o2).alloc o3).alloc o4).heap[w.heap.size+1+1]? = some o3∧((((w.alloc o1).alloc o2).alloc o3).alloc o4).heap[w.heap.size+1+1+1]? = some o4:=by
 have e1:(w.alloc o1).heap.size=w.heap.size+1:=by simp
 have e2:((w.alloc o1).alloc o2).heap.size=w.heap.size+1+1:=by simp
 have e3:(((w.alloc o1).alloc o2).alloc o3).heap.size=w.heap.size+1+1+1:=by simp
 have n1:=heap_alloc_new w o1
 have n2:=heap_alloc_new (w.alloc o1) o2
 have n3:=heap_alloc_new ((w.alloc o1).alloc o2) o3
 have n4:=heap_alloc_new (((w.alloc o1).alloc o2).alloc o3) o4
 rw [e1] at n2
 rw [e2] at n3
 rw [e3] at n4
 refine ⟨?_,?_,?_,n4⟩
 · exact (Below.heap_alloc _ _ _ (by omega)).trans ((Below.heap_alloc _ _ _ (by omega)).trans ((Below.heap_alloc _ _ _ (by omega)).trans n1))
 · exact (Below.heap_alloc _ _ _ (by omega)).trans ((Below.heap_alloc _ _ _ (by omega)).trans n2)
 · exact (Below.heap_alloc _ _ _ (by omega)).trans n3
theorem four_below (w:World) (o1 o2 o3 o4:Obj):Below w.heap.size w ((((w.alloc o1).alloc o2).alloc o3).alloc o4):=by
 have h1:=(Below.refl w.heap.size w).alloc (Nat.le_refl _) o1
 have h2:=h1.alloc h1.size o2
 have h3:=h2.alloc h2.size o3
 exact h3.alloc h3.size o4
structure SK (w:World) (o1 o2 o3 o4:Obj) (W:World):Prop where
 low:Below w.heap.size w W
 b0:W.heap[w.heap.size]? = some o1
 b1:W.heap[w.heap.size+1]? = some o2
 b2:W.heap[w.heap.size+1+1]? = some o3
 b3:W.heap[w.heap.size+1+1+1]? = some o4
theorem SK.start (w:World) (o1 o2 o3 o4:Obj):SK w o1 o2 o3 o4 ((((w.alloc o1).alloc o2).alloc o3).alloc o4):=
 ⟨four_below w o1 o2 o3 o4,(four_new w o1 o2 o3 o4).1,(four_new w o1 o2 o3 o4).2.1,(four_new w o1 o2 o3 o4).2.2.1,(four_new w o1 o2 o3 o4).2.2.2⟩
theorem heap_on {W W':World} {g:Nat} {o:Obj} (h:W.heap[g]? = some o) (hb:Below W.heap.size W W'):W'.heap[g]? = some o:=(hb.block _ (Array.getElem?_eq_some_iff.1 h).1).trans h
theorem SK.next {w W W':World} {o1 o2 o3 o4:Obj} (h:SK w o1 o2 o3 o4 W) (hb:Below W.heap.size W W'):SK w o1 o2 o3 o4 W':=
 ⟨h.low.trans (hb.mono h.low.size),heap_on h.b0 hb,heap_on h.b1 hb,heap_on h.b2 hb,heap_on h.b3 hb⟩
def dsubB (S:SchT) (na:ByteArray) (la ma:Int) (nb:ByteArray) (lb mb:Int):Bool:=
 rightT na.data.toList la ma && (subB nb la ma nb lb mb && narB S na nb)
theorem dsub_any (S:SchT) (na:ByteArray) (la ma:Int) (nb:ByteArray) (lb mb:Int) (c0 c1 c2:Value) (w:World) (B:Nat) (hB:B≤w.heap.size) (ha:na.size≤9223372036854775807) (hb:nb.size≤9223372036854775807) (hz:SlimS S) (hS:TS w (fun b=>b < B) (encSch S) [c0,c1,c2]) :
   Calls Tryz.prog 21 #[.agg #[c0,c1,c2],.agg #[.string na,.int .i64 la,.int .i64 ma],.agg #[.string nb,.int .i64 lb,.int .i64 mb]] w fun e w'=>e=.returned (.bool (dsubB S na la ma nb lb mb))∧Below w.heap.size w w':=by
 have N1:=Hd (fun (wx:World) (h:Below w.heap.size w wx)=>narrower_any S na nb c0 c1 c2 wx B (Nat.le_trans hB h.size) (by omega) (by omega) hz (TS.low (h.mono hB) hS))
 have R1:=Hd (fun wx=>wright_any na la ma wx ha)
 have S1:=Hd (fun wx=>wsub_any nb la ma nb lb mb wx hb hb)
 obtain ⟨A,k,e,_⟩:=sch_cells hS
 injection e with e0 e
 injection e with e1 e
 injection e with e2 e
 subst e0 e1 e2
 clear hB e ha hb hS hz
 have HQ:Hid (dsubB S na la ma nb lb mb=(rightT na.data.toList la ma && (subB nb la ma nb lb mb && narB S na nb))):=Hd rfl
 generalize dsubB S na la ma nb lb mb=Q at HQ ⊢
 generalize rightT na.data.toList la ma=x1 at R1 HQ
 generalize subB nb la ma nb lb mb=x2 at S1 HQ
 generalize narB S na nb=x3 at N1 HQ
 have X0:=Hd (SK.start w (.cells #[.slice A S.defs.length k,.string S.query,.string S.mutation] 24) (.cells #[.string na,.int .i64 la,.int .i64 ma] 43) (.cells #[.string nb,.int .i64 lb,.int .i64 mb] 43) (.cells #[.string nb,.int .i64 la,.int .i64 ma] 43))
 go_enter Tryz.func21,Tryz.ntmps21
 go_wp2_with fail
 refine (R1.out _).mono ?_
 rintro e w1 ⟨rfl,hb1⟩
 have X1:=Hd (X0.out.next hb1)
 clear hb1 R1 X0
 obtain ⟨a0,a1,a2⟩:=three_cells X1.out.b1
 obtain ⟨f0,f1,f2⟩:=three_cells X1.out.b2
 obtain ⟨g0,g1,g2⟩:=three_cells X1.out.b3
 cases x1 with
 | false =>
   go_wp2_with fail
   go_ret
   exact ⟨Blk.ret_bool HQ.out.symm,X1.out.low⟩
 | true =>
   go_wp2_with fail
   refine (S1.out _).mono ?_
   rintro e w2 ⟨rfl,hb2⟩
   have X2:=Hd (X1.out.next hb2)
   clear hb2 S1 X1 a0 a1 a2 f0 f1 f2 g0 g1 g2
   obtain ⟨z0,z1,z2⟩:=three_cells X2.out.b0
   obtain ⟨a0,a1,a2⟩:=three_cells X2.out.b1
   obtain ⟨f0,f1,f2⟩:=three_cells X2.out.b2
   cases x2 with
   | false =>
     go_wp2_with fail
     go_ret
     exact ⟨Blk.ret_bool HQ.out.symm,X2.out.low⟩
   | true =>
     go_wp2_with fail
     refine (N1.out _ X2.out.low).mono ?_
     rintro e w3 ⟨rfl,hb3⟩
     have X3:=Hd (X2.out.next hb3)
     clear hb3 N1 X2 a0 a1 a2 f0 f1 f2 z0 z1 z2
     go_wp2_with fail
     go_ret
     exact ⟨Blk.ret_bool HQ.out.symm,X3.out.low⟩
def fit6F (S:SchT) (own:List FieldT) (g:FieldT):Bool:=match lastN (fun x=>x.name) own g.name with
 | none=>false
 | some y=>dsubB S y.tn y.tl y.tm g.tn g.tl g.tm && standB y.params g.params
def face6B (S:SchT) (own:List FieldT) (s:ByteArray):Bool:=(findD S.defs s).1.fields.all (fit6F S own)
def un6B (S:SchT) (d:DefnT):Bool:=d.faces.all (face6B S d.fields)
def rule6B (S:SchT):Bool:=S.defs.all (un6B S)
theorem held_ofF {w:World} {B:Nat} {own:List FieldT} {m:ByteArray→Option Value} (h:HeldP w B encField (fun y=>y.name) own m) {s:ByteArray} {u:Value} (hu:m s=some u):∃ x cs,lastN (fun y:FieldT=>y.name) own s=some x∧u=.agg cs.toArray∧TS w (fun b=>b < B) (encField x) cs:=by
 cases e:lastN (fun y:FieldT=>y.name) own s with
 | none=>rw [h.none_at e] at hu;cases hu
 | some x =>
   obtain ⟨cs,h1,h2⟩:=h.some_at e
   rw [hu] at h1
   injection h1 with h1
   exact ⟨x,cs,rfl,h1,h2⟩
theorem fit_none {w:World} {B:Nat} {S:SchT} {own:List FieldT} {m:ByteArray→Option Value} (h:HeldP w B encField (fun y=>y.name) own m) {g:FieldT} (hm:m g.name=none):fit6F S own g=false:=by
 unfold fit6F
 cases e:lastN (fun y:FieldT=>y.name) own g.name with
 | none=>rfl
 | some x =>
   obtain ⟨cs,h1,_⟩:=h.some_at e
   rw [h1] at hm
   cases hm
theorem fit_some {S:SchT} {own:List FieldT} {g y:FieldT} (h:lastN (fun y:FieldT=>y.name) own g.name=some y):fit6F S own g=(dsubB S y.tn y.tl y.tm g.tn g.tl g.tm && standB y.params g.params):=by
 unfold fit6F
 rw [h]
theorem rule6_any (S:SchT) (hz:SlimS S) (c0 c1 c2:Value) (w:World) (B:Nat) (hB:B≤w.heap.size) (hS:TS w (fun b=>b < B) (encSch S) [c0,c1,c2]) :
  Calls Tryz.prog 59 #[.agg #[c0,c1,c2]] w fun e w'=>e=.returned (.bool (rule6B S))∧Below w.heap.size w w':=by
 have FI:=Hd (fun (s:ByteArray) (hs:s.size≤9223372036854775807) (wx:World) (hb:Below w.heap.size w wx)=>Find_any S s c0 c1 c2 wx B (Nat.le_trans hB hb.size) hs hz (TS.low (hb.mono hB) hS))
 have HZD:Hid (∀ d,d ∈ S.defs→d.fields.length < maxLen∧∀ f,f ∈ d.fields→f.params.length < maxLen):=Hd (fun d hd=>by
  obtain ⟨h1,h2,h3,h4,h5⟩:=hz.2 d hd
  refine ⟨by unfold maxLen;omega,fun f hf=>?_⟩
  have:=(h5 f hf).1
  unfold maxLen
  omega)
 have HZ:=Hd hz
 obtain ⟨A,k,e,hl,hR⟩:=sch_cells hS
 injection e with e0 e
 injection e with e1 e
 injection e with e2 e
 subst e0 e1 e2
 have HR:=Hd hR
 have HB:=Hd hB
 have HS:=Hd hS
 have B1:=Hd (dbelow_new w (.cells #[.slice A S.defs.length k,.string S.query,.string S.mutation] 24))
 have Y1:=Hd (heap_alloc_new w (.cells #[.slice A S.defs.length k,.string S.query,.string S.mutation] 24))
 have HE:Hid (rule6B S=S.defs.all (un6B S)):=Hd rfl
 clear hB hS hR hz e
 go_enter Tryz.func59,Tryz.ntmps59
 go_upto_region 1 with fail
 generalize w.alloc (.cells #[.slice A S.defs.length k,.string S.query,.string S.mutation] 24)=w1 at B1 Y1 ⊢
 obtain ⟨y0,y1,y2⟩:=three_cells Y1.out
 go_wp2_with fail
 go_loopg [17] S.defs.length (fun g i wx=>∃ q:Nat,q+g=S.defs.length∧i=.int .i64 q∧Aside ((S.defs.take q).all (un6B S)=true∧Below w.heap.size w wx∧wx.heap[w.heap.size]? = some (.cells #[.slice A S.defs.length k,.string S.query,.string S.mutation] 24 (0,0))))
 case atStart=>exact ⟨0,by omega,rfl,Blk.Aside.intro ⟨rfl,B1.out,Y1.out⟩⟩
 case round =>
  obtain ⟨q,hq,rfl,HX⟩:=hrel
  have HI:=Hd HX.out.1
  have BX:=Hd HX.out.2.1
  have YX:=Hd HX.out.2.2
  clear HX B1 Y1 y0 y1 y2
  cases gk with
  | zero =>
    obtain rfl:q=S.defs.length:=by omega
    have HA:=Hd (all_take_end HI.out)
    go_wp2_with fail
    go_ret
    exact ⟨by rw [HE.out,HA.out];rfl,BX.out⟩
  | succ g =>
    have hqn:q < S.defs.length:=by omega
    have hqn':(q:Int) < (S.defs.length:Int):=by omega
    obtain ⟨d,hx⟩:∃ x,S.defs[q]? = some x:=⟨_,List.getElem?_eq_getElem hqn⟩
    obtain ⟨hfz,hyz⟩:=HZD.out d (List.mem_of_getElem? hx)
    have HYZ:=Hd hyz
    clear hyz
    obtain ⟨b,o,cs,rfl,hb,hc,hT⟩:=rowOf_at 6 defn_len HR.out hx
    have HBL:=Hd (Nat.lt_of_lt_of_le hb HB.out)
    obtain ⟨Af,kf,Ax,kx,Ap,kp,Am,km,rfl,_,⟨hfl,hf⟩,⟨hxl,hxr⟩,_⟩:=defn_cells hT
    have g0:=(BX.out.cell (p:=⟨b,o+q*6,none⟩) HBL.out).trans (hc 0 _ rfl)
    have g1:=(BX.out.cell (p:=⟨b,o+q*6+1,none⟩) HBL.out).trans (hc 1 _ rfl)
    have g2:=(BX.out.cell (p:=⟨b,o+q*6+2,none⟩) HBL.out).trans (hc 2 _ rfl)
    have g3:=(BX.out.cell (p:=⟨b,o+q*6+3,none⟩) HBL.out).trans (hc 3 _ rfl)
    have g4:=(BX.out.cell (p:=⟨b,o+q*6+4,none⟩) HBL.out).trans (hc 4 _ rfl)
    have g5:=(BX.out.cell (p:=⟨b,o+q*6+5,none⟩) HBL.out).trans (hc 5 _ rfl)
    have HN:=Hd (fun h=>all_take_next (p:=un6B S) HI.out hx h)
    have HM:=Hd (fun h=>all_take_no (p:=un6B S) hx h)
    have HU:Hid (un6B S d=d.faces.all (face6B S d.fields)):=Hd rfl
    have HP:=Hd hf
    have BY:=Hd (fun (wx:World) (hb:Below w.heap.size w wx)=>bynameFldV_any 101 (fun x=>x.name) d.fields Ax kx wx B (Nat.le_trans HB.out hb.size) hfz (RowT.below (hb.mono HB.out) hxr) (Go.Proofs.enters_of Tryz.func101 (by kernel_rfl) rfl) (fun x _ cs W _ hT=>fieldName_any x cs W B hT) (fld_names hxr))
    generalize un6B S d=ud at HN HM HU
    clear hx hb hc hT hf hfz hxr
    go_upto_region 4 with fail
    clear g0 g1 g2 g3 g4 g5
    have bn:=dbelow_new wr (.cells #[.int .i64 d.kind,.string d.name,.slice Af d.faces.length kf,.slice Ax d.fields.length kx,.slice Ap d.parts.length kp,.slice Am d.params.length km] 37)
    have B2:=Hd (BX.out.trans (bn.mono BX.out.size))
    have Y2:=Hd (heap_alloc_new wr (.cells #[.int .i64 d.kind,.string d.name,.slice Af d.faces.length kf,.slice Ax d.fields.length kx,.slice Ap d.parts.length kp,.slice Am d.params.length km] 37))
    have S2:=Hd ((bn.block _ (Array.getElem?_eq_some_iff.1 YX.out).1).trans YX.out)
    generalize wr.alloc (.cells #[.int .i64 d.kind,.string d.name,.slice Af d.faces.length kf,.slice Ax d.fields.length kx,.slice Ap d.parts.length kp,.slice Am d.params.length km] 37)=w2 at B2 Y2 S2 bn ⊢
    generalize wr.heap.size=g4 at Y2 ⊢
    clear bn BX YX
    obtain ⟨⟨y0,y1,y2,y3,y4,y5⟩,_⟩:=six_cells Y2.out
    go_wp2_with fail
    refine (BY.out _ B2.out).mono ?_
    rintro e w3 ⟨rfl,⟨D,m,hm,hD,hH⟩,hb⟩
    have HD:=Hd hD
    have M3:=Hd hm
    have HH:=Hd hH
    have B02:=Hd B2.out
    have B3:=Hd (B2.out.trans (hb.mono B2.out.size))
    have Y3:=Hd ((hb.block _ (Array.getElem?_eq_some_iff.1 Y2.out).1).trans Y2.out)
    have S3:=Hd ((hb.block _ (Array.getElem?_eq_some_iff.1 S2.out).1).trans S2.out)
    generalize w2.heap.size=mb at M3 ⊢
    clear hb hm hD hH y0 y1 y2 y3 y4 y5 Y2 B2 S2
    obtain ⟨⟨y0,y1,y2,y3,y4,y5⟩,_⟩:=six_cells Y3.out
    go_wp2_with fail
    clear y0 y1 y2 y3 y4 y5
    go_loopg [27] d.faces.length (fun g2 i wx=>∃ z:Nat,z+g2=d.faces.length∧i=.int .i64 z∧Aside ((d.faces.take z).all (face6B S d.fields)=true∧Below w.heap.size w wx∧wx.heap[w.heap.size]? = some (.cells #[.slice (some ⟨b,o,none⟩) S.defs.length k,.string S.query,.string S.mutation] 24 (0,0))∧wx.ownsMap Tryz.prog 9 R1 mb d.fields.length D))
    case atStart=>exact ⟨0,by omega,rfl,Blk.Aside.intro ⟨rfl,B3.out,S3.out,M3.out⟩⟩
    case round =>
     obtain ⟨z,hz,rfl,HX⟩:=hrel
     have HJ:=Hd HX.out.1
     have BX:=Hd HX.out.2.1
     have SX:=Hd HX.out.2.2.1
     have MX:=Hd HX.out.2.2.2
     clear HX B3 Y3 S3 M3
     cases gk with
     | zero =>
       obtain rfl:z=d.faces.length:=by omega
       have HA:=Hd (HN.out (by rw [HU.out,all_take_end HJ.out]))
       go_wp2_with fail
       go_roundg g
       case measure=>omega
       case rel=>exact ⟨q+1,by omega,by go_num,Blk.Aside.intro ⟨HA.out,BX.out,SX.out⟩⟩
     | succ g2 =>
       have hzn:z < d.faces.length:=by omega
       have hzn':(z:Int) < (d.faces.length:Int):=by omega
       obtain ⟨s,hs⟩:∃ x,d.faces[z]? = some x:=⟨_,List.getElem?_eq_getElem hzn⟩
       obtain ⟨b2,o2,cs2,rfl,hb2,hc2,hT2⟩:=rowOf_at 1 len_str HP.out hs
       obtain ⟨rfl,hsz⟩:=str_one hT2
       have h0:w.cell? ⟨b2,o2+z,none⟩=some (.string s):=by have h:=hc2 0 _ rfl;rw [Nat.mul_one] at h;exact h
       have g0:=(BX.out.cell (p:=⟨b2,o2+z,none⟩) (Nat.lt_of_lt_of_le hb2 HB.out)).trans h0
       have FX:=Hd (FI.out s hsz)
       have HN2:=Hd (fun h=>all_take_next (p:=face6B S d.fields) HJ.out hs h)
       have HM2:=Hd (fun h=>all_take_no (p:=face6B S d.fields) hs h)
       have HF:Hid (face6B S d.fields s=(findD S.defs s).1.fields.all (fit6F S d.fields)):=Hd rfl
       generalize face6B S d.fields s=fb at HN2 HM2 HF
       generalize findD S.defs s=fd at FX HF
       obtain ⟨fd,ok⟩:=fd
       dsimp only at HF
       clear hs hb2 hc2 hT2 h0 hsz
       obtain ⟨y0,y1,y2⟩:=three_cells SX.out
       go_wp2_with fail
       refine (FX.out _ BX.out).mono ?_
       rintro e w4 ⟨d0,d1,d2,d3,d4,d5,rfl,hT,hb⟩
       have B4:=Hd (BX.out.trans (hb.mono BX.out.size))
       have S4:=Hd ((hb.block _ (Array.getElem?_eq_some_iff.1 SX.out).1).trans SX.out)
       have M4:=Hd (map_onV MX.out hb)
       obtain ⟨Bf,jf,Bx,jx,Bp,jp,Bm,jm,e,_,_,⟨hjl,hj⟩,_⟩:=defn_cells hT
       simp only [List.cons.injEq,and_true] at e
       obtain ⟨rfl,rfl,rfl,rfl,rfl,rfl⟩:=e
       clear hb hT y0 y1 y2 g0 BX SX MX FX
       go_upto_region 9 with fail
       have bn:=dbelow_new w4 (.cells #[.int .i64 fd.kind,.string fd.name,.slice Bf fd.faces.length jf,.slice Bx fd.fields.length jx,.slice Bp fd.parts.length jp,.slice Bm fd.params.length jm] 37)
       have B5:=Hd (B4.out.trans (bn.mono B4.out.size))
       have F5:=Hd (heap_alloc_new w4 (.cells #[.int .i64 fd.kind,.string fd.name,.slice Bf fd.faces.length jf,.slice Bx fd.fields.length jx,.slice Bp fd.parts.length jp,.slice Bm fd.params.length jm] 37))
       have S5:=Hd ((bn.block _ (Array.getElem?_eq_some_iff.1 S4.out).1).trans S4.out)
       have M5:=Hd (map_onV M4.out bn)
       have B45:=Hd bn
       have HJR:=Hd hj
       generalize w4.alloc (.cells #[.int .i64 fd.kind,.string fd.name,.slice Bf fd.faces.length jf,.slice Bx fd.fields.length jx,.slice Bp fd.parts.length jp,.slice Bm fd.params.length jm] 37)=w5 at B5 F5 S5 M5 B45 bn ⊢
       obtain ⟨g8,hg8⟩:∃ g,w4.heap.size=g:=⟨_,rfl⟩
       rw [hg8] at F5 ⊢
       clear bn hj S4 M4 hg8
       obtain ⟨⟨z0,z1,z2,z3,z4,z5⟩,_⟩:=six_cells F5.out
       go_wp2_with fail
       clear z0 z1 z2 z3 z4 z5
       go_loopg [40] fd.fields.length (fun g3 i wx=>∃ v:Nat,v+g3=fd.fields.length∧i=.int .i64 v∧Aside ((fd.fields.take v).all (fit6F S d.fields)=true∧Below w.heap.size w wx∧wx.heap[w.heap.size]? = some (.cells #[.slice (some ⟨b,o,none⟩) S.defs.length k,.string S.query,.string S.mutation] 24 (0,0))∧wx.ownsMap Tryz.prog 9 R1 mb d.fields.length D∧Below w4.heap.size w4 wx))
       case atStart=>exact ⟨0,by omega,rfl,Blk.Aside.intro ⟨rfl,B5.out,S5.out,M5.out,B45.out⟩⟩
       case round =>
        obtain ⟨v,hv,rfl,HX⟩:=hrel
        have HK:=Hd HX.out.1
        have BX:=Hd HX.out.2.1
        have SX:=Hd HX.out.2.2.1
        have MX:=Hd HX.out.2.2.2.1
        have B4X:=Hd HX.out.2.2.2.2
        clear HX B5 F5 S5 M5 B45
        cases gk with
        | zero =>
          obtain rfl:v=fd.fields.length:=by omega
          have HA:=Hd (HN2.out (by rw [HF.out,all_take_end HK.out]))
          go_wp2_with fail
          go_roundg g2
          case measure=>omega
          case rel=>exact ⟨z+1,by omega,by go_num,Blk.Aside.intro ⟨HA.out,BX.out,SX.out,MX.out⟩⟩
        | succ gv =>
          have hvn:v < fd.fields.length:=by omega
          have hvn':(v:Int) < (fd.fields.length:Int):=by omega
          obtain ⟨g,hx⟩:∃ x,fd.fields[v]? = some x:=⟨_,List.getElem?_eq_getElem hvn⟩
          obtain ⟨b3,o3,cs3,rfl,hb3,hc3,hT3⟩:=rowOf_at 6 len_fld HJR.out hx
          obtain ⟨Gp,gkp,Gd,gkd,rfl,⟨hgn,hgtn⟩,⟨hgpl,hgpr⟩,_⟩:=fld_cells hT3
          have hks:g.name.size≤maxLen:=by unfold maxLen;omega
          have x0:=(B4X.out.cell (p:=⟨b3,o3+v*6,none⟩) hb3).trans (hc3 0 _ rfl)
          have x1:=(B4X.out.cell (p:=⟨b3,o3+v*6+1,none⟩) hb3).trans (hc3 1 _ rfl)
          have x2:=(B4X.out.cell (p:=⟨b3,o3+v*6+2,none⟩) hb3).trans (hc3 2 _ rfl)
          have x3:=(B4X.out.cell (p:=⟨b3,o3+v*6+3,none⟩) hb3).trans (hc3 3 _ rfl)
          have x4:=(B4X.out.cell (p:=⟨b3,o3+v*6+4,none⟩) hb3).trans (hc3 4 _ rfl)
          have x5:=(B4X.out.cell (p:=⟨b3,o3+v*6+5,none⟩) hb3).trans (hc3 5 _ rfl)
          have HN3:=Hd (fun h=>all_take_next (p:=fit6F S d.fields) HK.out hx h)
          have HM3:=Hd (fun h=>all_take_no (p:=fit6F S d.fields) hx h)
          have HG:Hid (fit6F S d.fields g=fit6F S d.fields g):=Hd rfl
          have HGR:=Hd hgpr
          clear hx hb3 hc3 hT3 hgpr
          go_upto_region 12 with fail
          clear x0 x1 x2 x3 x4 x5
          have bn:=dbelow_new wr (.cells #[.string g.name,.slice Gp g.params.length gkp,.string g.tn,.int .i64 g.tl,.int .i64 g.tm,.slice Gd g.dirs.length gkd] 46)
          have B6:=Hd (BX.out.trans (bn.mono BX.out.size))
          have G6:=Hd (heap_alloc_new wr (.cells #[.string g.name,.slice Gp g.params.length gkp,.string g.tn,.int .i64 g.tl,.int .i64 g.tm,.slice Gd g.dirs.length gkd] 46))
          have S6:=Hd ((bn.block _ (Array.getElem?_eq_some_iff.1 SX.out).1).trans SX.out)
          have M6:=Hd (map_onV MX.out bn)
          have B46:=Hd (B4X.out.trans (bn.mono B4X.out.size))
          generalize wr.alloc (.cells #[.string g.name,.slice Gp g.params.length gkp,.string g.tn,.int .i64 g.tl,.int .i64 g.tm,.slice Gd g.dirs.length gkd] 46)=w6 at B6 G6 S6 M6 B46 ⊢
          generalize wr.heap.size=g6 at G6 ⊢
          clear bn BX SX MX B4X
          have HGT:=Hd (RowT.below B46.out HGR.out)
          have HSZ6:=Hd B46.out.size
          have hzv:∀ w:World,(zeroValue 46).run Tryz.prog w=.ok (.agg #[.string ⟨#[]⟩,.slice none 0 0,.string ⟨#[]⟩,.int .i64 0,.int .i64 0,.slice none 0 0]) w:=fun w=>by rfl
          obtain ⟨⟨z0,z1,z2,z3,z4,z5⟩,_⟩:=six_cells G6.out
          obtain ⟨y0,y1,y2⟩:=three_cells S6.out
          cases hmm:m g.name with
          | none =>
            have HNA:=Hd (HM.out (by rw [HU.out,HM2.out (by rw [HF.out,HM3.out (HG.out.trans (fit_none HH.out hmm))])]))
            go_upto_region 13 with (at_lookup;refine wpList_lookV rfl _ _ 120 rfl 9 46 Tryz.underlying9 Tryz.underlying120 (hzv _) mb d.fields.length D _ rfl M6.out HD.out g.name rfl hks _ _ (LookV.no hmm) ?_)
            have bn:=dbelow_new w6 (.cells #[.string ⟨#[]⟩,.slice none 0 0,.string ⟨#[]⟩,.int .i64 0,.int .i64 0,.slice none 0 0] 46)
            have B7:=Hd (B6.out.trans (bn.mono B6.out.size))
            generalize w6.alloc (.cells #[.string ⟨#[]⟩,.slice none 0 0,.string ⟨#[]⟩,.int .i64 0,.int .i64 0,.slice none 0 0] 46)=w7 at B7 ⊢
            clear bn hmm
            go_wp2_with fail
            go_ret
            exact ⟨by rw [HE.out,HNA.out];rfl,B7.out⟩
          | some u =>
            obtain ⟨y,ycs,hy,rfl,hTY⟩:=held_ofF HH.out hmm
            obtain ⟨Yp,ykp,Yd,ykd,rfl,⟨_,hytn⟩,⟨hypl,hypr⟩,_⟩:=fld_cells hTY
            have HG':=Hd (HG.out.trans (fit_some hy))
            have HYL:=Hd (HYZ.out y (lastN_mem hy).1)
            go_upto_region 13 with (at_lookup;refine wpList_lookV rfl _ _ 120 rfl 9 46 Tryz.underlying9 Tryz.underlying120 (hzv _) mb d.fields.length D _ rfl M6.out HD.out g.name rfl hks _ _ (LookV.yes hmm) ?_)
            have bn:=dbelow_new w6 (.cells #[.string y.name,.slice Yp y.params.length ykp,.string y.tn,.int .i64 y.tl,.int .i64 y.tm,.slice Yd y.dirs.length ykd] 46)
            have B7:=Hd (B6.out.trans (bn.mono B6.out.size))
            have Y7:=Hd (heap_alloc_new w6 (.cells #[.string y.name,.slice Yp y.params.length ykp,.string y.tn,.int .i64 y.tl,.int .i64 y.tm,.slice Yd y.dirs.length ykd] 46))
            have G7:=Hd ((bn.block _ (Array.getElem?_eq_some_iff.1 G6.out).1).trans G6.out)
            have S7:=Hd ((bn.block _ (Array.getElem?_eq_some_iff.1 S6.out).1).trans S6.out)
            have M7:=Hd (map_onV M6.out bn)
            have HGT7:=Hd (RowT.below (bn.mono HSZ6.out) HGT.out)
            have HSZ7:=Hd (Nat.le_trans HSZ6.out bn.size)
            have B47:=Hd (B46.out.trans (bn.mono B46.out.size))
            generalize w6.alloc (.cells #[.string y.name,.slice Yp y.params.length ykp,.string y.tn,.int .i64 y.tl,.int .i64 y.tm,.slice Yd y.dirs.length ykd] 46)=w7 at B7 Y7 G7 S7 M7 HGT7 HSZ7 B47 ⊢
            generalize w6.heap.size=g7 at Y7 ⊢
            have HYP:=Hd hypr
            clear bn hmm hy hTY hypr G6 S6 M6 B6 HGT HSZ6 z0 z1 z2 z3 z4 z5 y0 y1 y2
            have SB:=Hd (dsub_any S y.tn y.tl y.tm g.tn g.tl g.tm _ _ _ w7 B (Nat.le_trans HB.out B7.out.size) hytn hgtn HZ.out (TS.low (B7.out.mono HB.out) HS.out))
            obtain ⟨sb,hsb⟩:∃ b,dsubB S y.tn y.tl y.tm g.tn g.tl g.tm=b:=⟨_,rfl⟩
            rw [hsb] at SB HG'
            clear hsb
            obtain ⟨y0,y1,y2⟩:=three_cells S7.out
            obtain ⟨⟨z0,z1,z2,z3,z4,z5⟩,_⟩:=six_cells G7.out
            obtain ⟨⟨x0,x1,x2,x3,x4,x5⟩,_⟩:=six_cells Y7.out
            cases sb with
            | false =>
              have HNA:=Hd (HM.out (by rw [HU.out,HM2.out (by rw [HF.out,HM3.out (HG'.out.trans rfl)])]))
              go_wp2_with fail
              refine SB.out.mono ?_
              rintro e w8 ⟨rfl,hb⟩
              have B8:=Hd (B7.out.trans (hb.mono B7.out.size))
              clear hb y0 y1 y2 z0 z1 z2 z3 z4 z5 x0 x1 x2 x3 x4 x5
              go_wp2_with fail
              go_ret
              exact ⟨by rw [HE.out,HNA.out];rfl,B8.out⟩
            | true =>
              go_wp2_with fail
              refine SB.out.mono ?_
              rintro e w8 ⟨rfl,hb⟩
              have B8:=Hd (B7.out.trans (hb.mono B7.out.size))
              have Y8:=Hd ((hb.block _ (Array.getElem?_eq_some_iff.1 Y7.out).1).trans Y7.out)
              have G8:=Hd ((hb.block _ (Array.getElem?_eq_some_iff.1 G7.out).1).trans G7.out)
              have S8:=Hd ((hb.block _ (Array.getElem?_eq_some_iff.1 S7.out).1).trans S7.out)
              have M8:=Hd (map_onV M7.out hb)
              have HGT8:=Hd (RowT.below (hb.mono HSZ7.out) HGT7.out)
              have HSZ8:=Hd (Nat.le_trans HSZ7.out hb.size)
              have B48:=Hd (B47.out.trans (hb.mono B47.out.size))
              clear hb y0 y1 y2 z0 z1 z2 z3 z4 z5 x0 x1 x2 x3 x4 x5 B7 Y7 G7 S7 M7 HGT7 HSZ7 SB
              have ST:=Hd (stand_any y.params g.params Yp Gp ykp gkp w8 w4.heap.size HSZ8.out HYL.out hgpl (RowT.keep (P':=fun b=>b < w4.heap.size) (fun b hb=>⟨Nat.lt_of_lt_of_le hb (Nat.le_trans HB.out B4.out.size),(B8.out.block b (Nat.lt_of_lt_of_le hb HB.out)).trans (B02.out.block b (Nat.lt_of_lt_of_le hb HB.out)).symm⟩) _ _ HYP.out) HGT8.out)
              obtain ⟨st,hst⟩:∃ b,standB y.params g.params=b:=⟨_,rfl⟩
              rw [hst] at ST HG'
              clear hst
              obtain ⟨⟨z0,z1,z2,z3,z4,z5⟩,_⟩:=six_cells G8.out
              obtain ⟨⟨x0,x1,x2,x3,x4,x5⟩,_⟩:=six_cells Y8.out
              go_wp2_with fail
              refine ST.out.mono ?_
              rintro e w9 ⟨rfl,hb⟩
              have B9:=Hd (B8.out.trans (hb.mono B8.out.size))
              have S9:=Hd ((hb.block _ (Array.getElem?_eq_some_iff.1 S8.out).1).trans S8.out)
              have M9:=Hd (map_onV M8.out hb)
              have HSZ9:=Hd (Nat.le_trans HSZ8.out hb.size)
              have B49:=Hd (B48.out.trans (hb.mono B48.out.size))
              clear hb z0 z1 z2 z3 z4 z5 x0 x1 x2 x3 x4 x5 B8 Y8 G8 S8 M8 HGT8 HSZ8 ST
              cases st with
              | false =>
                have HNA:=Hd (HM.out (by rw [HU.out,HM2.out (by rw [HF.out,HM3.out (HG'.out.trans rfl)])]))
                go_wp2_with fail
                go_ret
                exact ⟨by rw [HE.out,HNA.out];rfl,B9.out⟩
              | true =>
                have HA:=Hd (HN3.out (HG'.out.trans rfl))
                go_wp2_with fail
                go_roundg gv
                case measure=>omega
                case rel=>exact ⟨v+1,by omega,by go_num,Blk.Aside.intro ⟨HA.out,B9.out,S9.out,M9.out,B49.out⟩⟩
end Go.Proofs.YtaekdfcpbepepaaGreatDoor
