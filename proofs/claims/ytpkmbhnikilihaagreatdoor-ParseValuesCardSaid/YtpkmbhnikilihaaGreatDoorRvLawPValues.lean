/- The walk of the law ParseValues. -/
import Derived.Test.YtpkmbhnikilihaaGreatDoorQv44
set_option maxRecDepth 100000
set_option maxHeartbeats 8000000
namespace Go.Proofs.YtpkmbhnikilihaaGreatDoor.LPValues
open Go.RowKit
mutual
theorem vmore {w:World} {B B':Nat} (hb:B≤B'):∀ (v:VT) (c0 c1 c2 c3 c4:Value),VAt w B v c0 c1 c2 c3 c4→VAt w B' v c0 c1 c2 c3 c4
 | .mk k n s l m,c0,c1,c2,c3,c4,h=>by
   unfold VAt at h ⊢
   obtain ⟨h0,h1,h2,hs,⟨A,c,h3,g3,h4⟩,A',c',h5,g5,h6⟩:=h
   exact ⟨h0,h1,h2,hs,⟨A,c,h3,g3,lmore hb l A 0 h4⟩,A',c',h5,g5,mmore hb m A' 0 h6⟩
theorem lmore {w:World} {B B':Nat} (hb:B≤B'):∀ (l:VL) (A:Option Addr) (j:Nat),LAt w B l A j→LAt w B' l A j
 | .nil,_,_,_=>by unfold LAt;trivial
 | .cons v t,A,j,h=>by
   unfold LAt at h ⊢
   obtain ⟨⟨b,o,c0,c1,c2,c3,c4,hA,hlt,hf,hv⟩,ht⟩:=h
   exact ⟨⟨b,o,c0,c1,c2,c3,c4,hA,Nat.lt_of_lt_of_le hlt hb,hf,vmore hb v _ _ _ _ _ hv⟩,lmore hb t A (j+1) ht⟩
theorem mmore {w:World} {B B':Nat} (hb:B≤B'):∀ (l:VM) (A:Option Addr) (j:Nat),MAt w B l A j→MAt w B' l A j
 | .nil,_,_,_=>by unfold MAt;trivial
 | .cons nm v t,A,j,h=>by
   unfold MAt at h ⊢
   obtain ⟨⟨b,o,c0,c1,c2,c3,c4,hA,hlt,hn,hz,hf,hv⟩,ht⟩:=h
   exact ⟨⟨b,o,c0,c1,c2,c3,c4,hA,Nat.lt_of_lt_of_le hlt hb,hn,hz,hf,vmore hb v _ _ _ _ _ hv⟩,mmore hb t A (j+1) ht⟩
end
theorem als (w:World) (o:Obj):Below w.heap.size w (w.alloc o):=(Below.refl _ _).alloc (Nat.le_refl _) o
theorem tbl {w w2 w3:World} (h:Below w.heap.size w w2) (h':Below w2.heap.size w2 w3):Below w.heap.size w w3:=h.trans (h'.mono h.size)
theorem typ_eq {l:List UInt8} {x:Int} {n:ByteArray} {k m:Int} (h:TypRes (wholeA (typeR 4) l) x n k m):typeA l=(.agg #[.string n,.int .i64 k,.int .i64 m],x):=by
 unfold wholeA at h
 unfold typeA
 split
 · rename_i h0
   rw [if_pos h0] at h
   obtain ⟨rfl,_,rfl,rfl,rfl⟩:=h
   rfl
 · rename_i h0
   rw [if_neg h0] at h
   cases ht:typeR 4 (tokB (readS l).1) with
   | error y =>
     rw [ht] at h
     obtain ⟨rfl,_,rfl,rfl,rfl⟩:=h
     rfl
   | ok a =>
     obtain ⟨⟨tn,tl,tm⟩,r⟩:=a
     rw [ht] at h
     simp only at h ⊢
     split
     · rename_i hr
       rw [if_pos hr] at h
       obtain ⟨rfl,rfl,rfl,rfl⟩:=h
       rfl
     · rename_i hr
       rw [if_neg hr] at h
       obtain ⟨rfl,_,rfl,rfl,rfl⟩:=h
       rfl
theorem typ_is (l:List UInt8):∃ n k m x,typeA l=(.agg #[.string n,.int .i64 k,.int .i64 m],x):=by
 unfold typeA
 split
 · exact ⟨_,_,_,_,rfl⟩
 · split
   · exact ⟨_,_,_,_,rfl⟩
   · split
     · exact ⟨_,_,_,_,rfl⟩
     · exact ⟨_,_,_,_,rfl⟩
def vOf:Except Int VT→VT
 | .ok v=>v
 | .error _=>zeroT
def xOf:Except Int VT→Int
 | .ok _=>0
 | .error y=>y
theorem res_vat {w w':World} {R:Except Int VT} {x:Int} {cs:List Value} (h:Res encV [.int .i64 0,.int .i64 0,.string ⟨#[]⟩,.slice none 0 0,.slice none 0 0] w w' R x cs):x=xOf R∧∃ c0 c1 c2 c3 c4,cs=[c0,c1,c2,c3,c4]∧VAt w' w'.heap.size (vOf R) c0 c1 c2 c3 c4:=by
 cases R with
 | ok v =>
   obtain ⟨h0,h1⟩:=h
   obtain ⟨c0,c1,c2,c3,c4,e,hv⟩:=ts_vp _ _ h1
   exact ⟨h0,c0,c1,c2,c3,c4,e,VP.at (fun b hb=>hb.2) _ _ _ _ _ _ hv⟩
 | error y =>
   obtain ⟨h0,_,h1⟩:=h
   refine ⟨h0,_,_,_,_,_,h1,?_⟩
   have hv:VP w' (Fresh w w') (.mk 0 0 ⟨#[]⟩ .nil .nil) (.int .i64 0) (.int .i64 0) (.string ⟨#[]⟩) (.slice none 0 0) (.slice none 0 0):=flat_vp _ _ _ _ _ (Nat.zero_le _)
   exact VP.at (fun b hb=>hb.2) _ _ _ _ _ _ hv
theorem walk (s:ByteArray) (fx:Bool) (w:World) (hz:s.size≤9223372036854775807) (h3:Laid3 w) (h5:Laid5 w):Calls Tryz.prog 4 #[.string s,.bool fx] w fun e w'=>e=.returned (.bool true)∧Below w.heap.size w w':=by
 have HA:=fun wx (hb:Below w.heap.size w wx)=>Hd (awake_any wx (h3.below hb) (h5.below hb))
 by_cases hs:3000 < s.size
 · have t1:decide ((3000:Int) < (s.size:Int))=true:=by simp;omega
   clear h3 h5
   go_enter Tryz.func4,Tryz.ntmps4
   go_wp2_with fail
   refine (HA _ (Below.refl _ _)).out.mono ?_
   rintro e w1 ⟨rfl,hb1⟩
   have B1:=Hd hb1
   clear hb1
   go_wp2_with fail
   go_ret
   exact ⟨rfl,B1.out⟩
 · have t1:decide ((3000:Int) < (s.size:Int))=false:=by simp;omega
   have hs':s.size≤9000:=by omega
   have HP:=fun wx (hb:Below w.heap.size w wx)=>Hd (pvalue_any s fx wx hs' (h3.below hb) (h5.below hb))
   have HR:=fun wx=>Hd (rvalue_any s fx wx hs')
   have HT:=fun wx (hb:Below w.heap.size w wx)=>Hd (ptype_any s wx hs' (h3.below hb))
   have HU:=fun wx=>Hd (rtype_any s wx hs')
   have HTE:=Hd (fun x n k m h=>typ_eq (l:=s.data.toList) (x:=x) (n:=n) (k:=k) (m:=m) h)
   obtain ⟨tn,tk,tm,tx,hty⟩:=typ_is s.data.toList
   rw [hty] at HT
   have HTY:=Hd hty
   obtain ⟨R,hR⟩:∃ R,wholeA (valD fx 0) s.data.toList=R:=⟨_,rfl⟩
   rw [hR] at HP HR
   clear h3 h5 hs hs' hty hR
   go_enter Tryz.func4,Tryz.ntmps4
   go_wp2_with fail
   refine (HP _ (Below.refl _ _)).out.mono ?_
   rintro e w1 ⟨uk,un,us,A6,n6,k6,A7,n7,k7,x,rfl,hres,hb1⟩
   obtain ⟨hx1,d0,d1,d2,d3,d4,e9,hd⟩:=res_vat hres
   injection e9 with q0 e9;injection e9 with q1 e9;injection e9 with q2 e9;injection e9 with q3 e9;injection e9 with q4 _
   subst q0 q1 q2 q3 q4
   have HX1:=Hd hx1
   have D1:=Hd hd
   have B1:=Hd hb1
   have B1a:=Hd (B1.out.alloc B1.out.size (.cells #[.int .i64 uk,.int .i64 un,.string us,.slice A6 n6 k6,.slice A7 n7 k7] 35))
   have L1:=Hd (als w1 (.cells #[.int .i64 uk,.int .i64 un,.string us,.slice A6 n6 k6,.slice A7 n7 k7] 35))
   have Y1:=Hd (heap_alloc_last w1 (.cells #[.int .i64 uk,.int .i64 un,.string us,.slice A6 n6 k6,.slice A7 n7 k7] 35))
   have z1:Hid ((w1.alloc (.cells #[.int .i64 uk,.int .i64 un,.string us,.slice A6 n6 k6,.slice A7 n7 k7] 35)).heap.size=w1.heap.size+1):=Hd (by simp)
   clear hres hb1 hd hx1
   go_wp2_with fail
   refine (HR _).out.mono ?_
   rintro e w2 ⟨uk',un',us',A6',n6',k6',A7',n7',k7',x',rfl,hres,hb2⟩
   obtain ⟨hx2,d0,d1,d2,d3,d4,e9,hd⟩:=res_vat hres
   injection e9 with q0 e9;injection e9 with q1 e9;injection e9 with q2 e9;injection e9 with q3 e9;injection e9 with q4 _
   subst q0 q1 q2 q3 q4
   obtain rfl:x=x':=HX1.out.trans hx2.symm
   have D2:=Hd hd
   have B2:=Hd (B1a.out.trans (hb2.mono B1a.out.size))
   have L2:=Hd (tbl L1.out hb2)
   have Y2:=Hd ((hb2.block w1.heap.size (by rw [z1.out];omega)).trans Y1.out)
   have l2:w1.heap.size < w2.heap.size:=by have:=hb2.size;have:=z1.out;omega
   have B2a:=Hd (B2.out.alloc B2.out.size (.cells #[.int .i64 uk',.int .i64 un',.string us',.slice A6' n6' k6',.slice A7' n7' k7'] 35))
   have L2a:=Hd (als w2 (.cells #[.int .i64 uk',.int .i64 un',.string us',.slice A6' n6' k6',.slice A7' n7' k7'] 35))
   have Y2a:=Hd (heap_alloc_last w2 (.cells #[.int .i64 uk',.int .i64 un',.string us',.slice A6' n6' k6',.slice A7' n7' k7'] 35))
   have z2:Hid ((w2.alloc (.cells #[.int .i64 uk',.int .i64 un',.string us',.slice A6' n6' k6',.slice A7' n7' k7'] 35)).heap.size=w2.heap.size+1):=Hd (by simp)
   clear hres hb2 hd hx2
   go_wp2_with fail
   refine (HT _ B2a.out).out.mono ?_
   rintro e w3 ⟨rfl,hb3⟩
   have B3:=Hd (B2a.out.trans (hb3.mono B2a.out.size))
   have L3:=Hd (tbl L2a.out hb3)
   have Y3:=Hd ((hb3.block w2.heap.size (by rw [z2.out];omega)).trans Y2a.out)
   have l3:w2.heap.size < w3.heap.size:=by have:=hb3.size;have:=z2.out;omega
   have B3a:=Hd (B3.out.alloc B3.out.size (.cells #[.string tn,.int .i64 tk,.int .i64 tm] 39))
   have L3a:=Hd (als w3 (.cells #[.string tn,.int .i64 tk,.int .i64 tm] 39))
   have Y3a:=Hd (heap_alloc_last w3 (.cells #[.string tn,.int .i64 tk,.int .i64 tm] 39))
   have z3:Hid ((w3.alloc (.cells #[.string tn,.int .i64 tk,.int .i64 tm] 39)).heap.size=w3.heap.size+1):=Hd (by simp)
   clear hb3
   go_wp2_with fail
   refine (HU _).out.mono ?_
   rintro e w4 ⟨tn',tk',tm',x9,rfl,htr,hb4⟩
   have hte:=HTE.out _ _ _ _ htr
   rw [HTY.out] at hte
   obtain ⟨ht1,rfl⟩:=Prod.mk.inj hte
   clear hte
   simp only [Value.agg.injEq,Array.mk.injEq,List.cons.injEq,Value.string.injEq,Value.int.injEq,true_and,and_true] at ht1
   obtain ⟨rfl,rfl,rfl⟩:=ht1
   have B4:=Hd (B3a.out.trans (hb4.mono B3a.out.size))
   have L4:=Hd (tbl L3a.out hb4)
   have Y4:=Hd ((hb4.block w3.heap.size (by rw [z3.out];omega)).trans Y3a.out)
   have l4:w3.heap.size < w4.heap.size:=by have:=hb4.size;have:=z3.out;omega
   have B4a:=Hd (B4.out.alloc B4.out.size (.cells #[.string tn,.int .i64 tk,.int .i64 tm] 39))
   have L4a:=Hd (als w4 (.cells #[.string tn,.int .i64 tk,.int .i64 tm] 39))
   have Y4a:=Hd (heap_alloc_last w4 (.cells #[.string tn,.int .i64 tk,.int .i64 tm] 39))
   have M14:=Hd (tbl (tbl (tbl L2.out L3.out) L4.out) L4a.out)
   have M24:=Hd (tbl (tbl L3.out L4.out) L4a.out)
   have M34:=Hd (tbl L4.out L4a.out)
   have HS:=Hd ((vsame_any (vOf R) (vOf R) _ _ _ _ _ _ _ _ _ _ _ _ (Nat.le_refl _) (vmore M14.out.size _ _ _ _ _ _ (VAt.below M14.out _ _ _ _ _ _ D1.out)) (vmore M24.out.size _ _ _ _ _ _ (VAt.below M24.out _ _ _ _ _ _ D2.out))))
   obtain ⟨f0,f1,f2,f3,f4,fz⟩:=gvc ((M24.out.block _ l2).trans Y2.out)
   obtain ⟨g0,g1,g2,g3,g4,gz⟩:=gvc ((M34.out.block _ l3).trans Y3.out)
   have eX:(x == x)=true:=by simp
   have eT:(tx == tx)=true:=by simp
   have z4:Hid ((w4.alloc (.cells #[.string tn,.int .i64 tk,.int .i64 tm] 39)).heap.size=w4.heap.size+1):=Hd (by simp)
   clear htr hb4 fz gz
   go_wp2_with fail
   refine HS.out.mono ?_
   rintro e w5 ⟨⟨b,rfl,hb⟩,hb5⟩
   obtain rfl:b=true:=hb.2 trivial
   have B5:=Hd (B4a.out.trans (hb5.mono B4a.out.size))
   obtain ⟨p0,p1,p2,pz⟩:=three_cells (((tbl L4a.out hb5).block _ l4).trans Y4.out)
   obtain ⟨r0,r1,r2,rz⟩:=three_cells ((hb5.block w4.heap.size (by rw [z4.out];omega)).trans Y4a.out)
   clear hb hb5 pz rz f0 f1 f2 f3 f4 g0 g1 g2 g3 g4
   go_wp2_with fail
   refine (HA _ B5.out).out.mono ?_
   rintro e w6 ⟨rfl,hb6⟩
   have B6:=Hd (B5.out.trans (hb6.mono B5.out.size))
   clear hb6
   go_wp2_with fail
   go_ret
   exact ⟨rfl,B6.out⟩
end Go.Proofs.YtpkmbhnikilihaaGreatDoor.LPValues
