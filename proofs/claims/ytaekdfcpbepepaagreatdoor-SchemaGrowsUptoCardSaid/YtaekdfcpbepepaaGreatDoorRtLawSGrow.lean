/- The walk of the law SchemaGrows. (gen_grows.py wrote it.) -/
import Derived.Deep.CutRange
import Derived.Deep.DeepCutAuto
import Derived.Test.YtaekdfcpbepepaaGreatDoorRtScDefs
import Derived.Test.YtaekdfcpbepepaaGreatDoorQt45
import Derived.Test.YtaekdfcpbepepaaGreatDoorQt28
set_option maxRecDepth 100000
set_option maxHeartbeats 8000000
namespace Go.Proofs.YtaekdfcpbepepaaGreatDoor.LSGrow
open Go.RowKit
theorem enB_law (x:ByteArray):enB x=(nameB x.data.toList && ((x.toList != [116,114,117,101]) && ((x.toList != [102,97,108,115,101]) && (x.toList != [110,117,108,108])))):=by
 have e:enB x=enumB x.data.toList:=by
  unfold enB enumV
  rw [fitV,fitL,fitM]
  show ((0 == 0) && enumB x.data.toList && ((0:Nat) == 0) && ((0:Nat) == 0) && true && true)=_
  cases enumB x.data.toList<;>rfl
 rw [e]
 unfold enumB nullL trueL falseL
 rw [Lib.toList_data]
 simp only [bne]
 cases nameB x.data.toList<;>cases (x.data.toList == [110,117,108,108])<;>cases (x.data.toList == [116,114,117,101])<;>cases (x.data.toList == [102,97,108,115,101])<;>rfl
theorem res_short {n:ByteArray} (h : ¬ 1 < n.size):resB n=false:=by
 unfold resB Lib.hasPrefix
 have hl:n.data.toList.length=n.size:=Array.length_toList
 match n.data.toList,hl with
 | [],_=>rfl
 | [a],_ =>
   show (95 == a && false)=false
   rw [Bool.and_false]
 | a :: b :: t,hl =>
   rw [List.length_cons,List.length_cons] at hl
   omega
theorem res_long {n:ByteArray} (h:2≤n.size):((n.extract 0 2).toList == [95,95])=resB n:=by
 have e:(decide (2≤n.size) && ((n.extract 0 2).toList == (⟨#[95,95]⟩:ByteArray).toList))=resB n:=Lib.hasPrefix_raw n ⟨#[95,95]⟩
 rw [decide_eq_true h,Bool.true_and,Lib.toList_data ⟨#[95,95]⟩] at e
 exact e
theorem str_at {w:World} {P:Nat→Prop} {l:List ByteArray} {A:Option Addr} {q:Nat} {x:ByteArray} (h:RowT w P (rowOf encStr l) A) (hx:l[q]? = some x):∃ b o,A=some ⟨b,o,none⟩∧P b∧w.cell? ⟨b,o+q,none⟩=some (.string x)∧x.size≤9223372036854775807:=by
 obtain ⟨b,o,cs,e,hb,hc,h1⟩:=rowOf_at 1 (fun _=>rfl) h hx
 simp only [encStr,TS,TP] at h1
 obtain ⟨c0,_,rfl,⟨rfl,hz⟩,rfl⟩:=h1
 have:=hc 0 _ rfl
 rw [Nat.mul_one,Nat.add_zero] at this
 exact ⟨b,o,e,hb,this,hz⟩
theorem enum_ts {w:World} {P:Nat→Prop} {n:ByteArray} {l:List ByteArray} {A:Option Addr} {c:Nat} (hn:n.size≤9223372036854775807) (hl:l.length≤9223372036854775807) (h:RowT w P (rowOf encStr l) A) :
  TS w P (encDefn (enumD n l)) [.int .i64 4,.string n,.slice none 0 0,.slice none 0 0,.slice A l.length c,.slice none 0 0]:=by
 unfold encDefn enumD
 simp only [TS,TP]
 exact ⟨_,_,rfl,⟨rfl,trivial⟩,_,_,rfl,⟨rfl,hn⟩,_,_,rfl,⟨none,0,rfl,by decide,nil_row⟩,_,_,rfl,⟨none,0,rfl,by decide,nil_row⟩,_,_,rfl,⟨A,c,by rw [rowOf_len],by rw [rowOf_len];exact hl,h⟩,_,_,rfl,⟨none,0,rfl,by decide,nil_row⟩,rfl⟩
theorem enum_new (w:World) (n:ByteArray) (l:List ByteArray) (A:Option Addr) (c:Nat):∀ (j:Nat) u,[Value.int .i64 4,.string n,.slice none 0 0,.slice none 0 0,.slice A l.length c,.slice none 0 0][j]? = some u→∃ b o,(some ⟨w.heap.size,0,none⟩:Option Addr)=some ⟨b,o,none⟩∧(w.alloc (.cells #[.int .i64 4,.string n,.slice none 0 0,.slice none 0 0,.slice A l.length c,.slice none 0 0] 37)).cell? ⟨b,o+j,none⟩=some u:=fun j u hj =>
 ⟨w.heap.size,0,rfl,by
  have h:=World.news_of_block (heap_alloc_new w (.cells #[.int .i64 4,.string n,.slice none 0 0,.slice none 0 0,.slice A l.length c,.slice none 0 0] 37)) j u hj
  rwa [add_at] at h⟩
def gdB (l:List ByteArray):Nat→Bool
 | 0=>true
 | q+1=>gdB l q && match l[q]? with
   | none=>true
   | some x=>enB x && (l.take q).all fun y=>x.toList != y.toList
theorem gd_next {l:List ByteArray} {q:Nat} {x:ByteArray} (h:l[q]? = some x):gdB l (q+1)=(gdB l q && (enB x && (l.take q).all fun y=>x.toList != y.toList)):=by rw [gdB,h]
theorem diff_snoc (m:List ByteArray) (x:ByteArray):diffB (m++[x])=(diffB m && m.all fun y=>x.toList != y.toList):=by
 have key:(∀ y,y ∈ m→x ≠ y) ↔ (m.all fun y=>x.toList != y.toList)=true:=by
   rw [List.all_eq_true]
   constructor
   · intro h y hy
     cases e:(x.toList == y.toList) with
     | true=>exact absurd (str_eq.1 e) (h y hy)
     | false=>simp only [bne,e,Bool.not_false]
   · intro h y hy e
     have:=h y hy
     rw [e] at this
     simp only [bne,beq_self_eq_true,Bool.not_true] at this
     cases this
 cases e:(diffB m && m.all fun y=>x.toList != y.toList) with
 | true =>
   rw [Bool.and_eq_true] at e
   have h1:=diff_nodup e.1
   have h2:=key.2 e.2
   refine nodup_diff (List.nodup_append.2 ⟨h1,List.nodup_cons.2 ⟨by simp,List.nodup_nil⟩,fun a ha b hb eb=>?_⟩)
   rw [List.mem_singleton.1 hb] at eb
   exact h2 a ha eb.symm
 | false =>
   cases e2:diffB (m++[x]) with
   | false=>rfl
   | true =>
     have h:=List.nodup_append.1 (diff_nodup e2)
     rw [nodup_diff h.1,key.1 (fun y hy ey=>h.2.2 y hy x (List.mem_singleton.2 rfl) ey.symm)] at e
     cases e
theorem gd_take (l:List ByteArray):∀ q,q≤l.length→gdB l q=((l.take q).all enB && diffB (l.take q))
 | 0,_=>rfl
 | q+1,h=>by
   have hx:l[q]? = some l[q]:=List.getElem?_eq_getElem (by omega)
   rw [gd_next hx,gd_take l q (by omega),List.take_add_one,hx,Option.toList_some,List.all_append,diff_snoc]
   show (_ && _ && (enB l[q] && _))=(_ && (enB l[q] && true) && _)
   cases (l.take q).all enB<;>cases diffB (l.take q)<;>cases enB l[q]<;>simp
theorem gd_all (l:List ByteArray):gdB l l.length=(l.all enB && diffB l):=by
 rw [gd_take l l.length (Nat.le_refl _),List.take_length]
theorem walk (w : World) (S:SchT) (c0 c1 c2:Value) (n:ByteArray) (l:List ByteArray) (Al:Option Addr) (cl:Nat) (hw:Laid5 w) (hz:SlimS S) (hlg:ligN S≤1048576) (hn:n.size≤140737488355328) (hll:l.length*16≤140737488355328) (hS:TS w (fun b=>b < w.heap.size) (encSch S) [c0,c1,c2]) (hL:RowT w (fun b=>b < w.heap.size) (rowOf encStr l) Al) :
   Calls Tryz.prog 5 #[.agg #[c0,c1,c2],.string n,.slice Al l.length cl] w fun e w'=>e=.returned (.bool true)∧Below w.heap.size w w':=by
 obtain ⟨hqz,hmz⟩:=sch_sizes hS
 obtain ⟨A,k,e,hl,hR⟩:=sch_cells hS
 injection e with e0 e
 injection e with e1 e
 injection e with e2 e
 subst e0 e1 e2
 have TSX:=fun (wx:World) (h:Below w.heap.size w wx)=>Hd (show TS wx (fun b=>b < w.heap.size) (encSch S) [.slice A S.defs.length k,.string S.query,.string S.mutation] from TS.low h hS)
 have LG:=Hd (fun (wx:World) (h:Below w.heap.size w wx)=>lightN_any S _ _ _ wx w.heap.size h.size (TSX wx h).out hlg)
 have CK:=Hd (fun (ok:OkS S) (wx:World) (h:Below w.heap.size w wx)=>check_all S ok _ _ _ wx w.heap.size h.size (TSX wx h).out (hw.below h))
 have FI:=Hd (fun (wx:World) (h:Below w.heap.size w wx)=>Find_any S n _ _ _ wx w.heap.size h.size (by omega) hz (TSX wx h).out)
 have NA:=Hd (fun (s:ByteArray) (hs:s.size≤9223372036854775807) (wx:World)=>name_low s wx hs)
 have CT:=Hd (fun (ok:OkS (growS S n l)) (hgl:(growS S n l).defs.length≤9223372036854775807) (A':Option Addr) (c':Nat) (wx:World) (h:Below w.heap.size w wx) (hr:RowT wx (fun b=>b < wx.heap.size) (rowOf encDefn (growS S n l).defs) A')=>check_all (growS S n l) ok (.slice A' (growS S n l).defs.length c') (.string S.query) (.string S.mutation) wx wx.heap.size (Nat.le_refl _) (defs_ts hqz hmz hgl hr) (hw.below h))
 have AW:=Hd (fun (wx:World) (h:Below w.heap.size w wx)=>exwake_any wx (hw.below h))
 have HOK:=Hd (fun (h:ligN S≤4000)=>okS_of h hz)
 have HOG:=Hd (fun (h:ligN S≤4000)=>grow_ok (n:=n) (l:=l) h hz)
 have HR:=Hd (fun (wx:World) (h:Below w.heap.size w wx)=>RowT.below h hR)
 have HRL:=Hd (fun (wx:World) (h:Below w.heap.size w wx)=>RowT.below h hL)
 have HZ0:=Hd hz.1
 have HN:=Hd hn
 have HLL:=Hd hll
 have K1:KSB w #[.slice A S.defs.length k,.string S.query,.string S.mutation] (w.alloc (.cells #[.slice A S.defs.length k,.string S.query,.string S.mutation] 24)):=⟨dbelow_new _ _,heap_alloc_new _ _⟩
 have HK1:=Hd K1
 clear hw hz hlg hS hR e TSX K1 hqz hmz hL
 obtain ⟨i0,z,hi,hz0,hz1,hz2,hz3⟩:=cinfo_dfn
 go_enter Tryz.func5,Tryz.ntmps5
 go_upto_region 1 with fail
 generalize w.alloc (.cells #[.slice A S.defs.length k,.string S.query,.string S.mutation] 24)=w1 at HK1 ⊢
 obtain ⟨z0,z1,z2⟩:=three_cells HK1.out.box
 obtain ⟨lb,hlb⟩:∃ b,decide (((ligN S:Nat):Int)≤4000)=b:=⟨_,rfl⟩
 have LB:=Hd hlb
 rw [hlb] at LG
 clear hlb
 cases lb with
 | false =>
   go_wp2_with fail
   refine (LG.out _ HK1.out.low).mono ?_
   rintro e w2 ⟨rfl,hb⟩
   have K2:=Hd (HK1.out.next hb)
   clear hb
   go_wp2_with fail
   refine (AW.out _ K2.out.low).mono ?_
   rintro e w3 ⟨rfl,hb⟩
   have K3:=Hd (K2.out.next hb)
   clear hb
   go_wp2_with fail
   go_ret
   exact ⟨rfl,K3.out.low⟩
 | true =>
   have HOK1:=Hd (HOK.out (by have:=of_decide_eq_true LB.out;omega))
   have H4:Hid (ligN S≤4000):=Hd (by have:=of_decide_eq_true LB.out;omega)
   by_cases hs:200 < n.size
   · have hs1:decide (200 < (n.size:Int))=true:=by simp;omega
     have hs2:(200:Int) < (n.size:Int):=by omega
     go_wp2_with fail
     refine (LG.out _ HK1.out.low).mono ?_
     rintro e w2 ⟨rfl,hb⟩
     have K2:=Hd (HK1.out.next hb)
     clear hb z0 z1 z2 LG
     obtain ⟨z0,z1,z2⟩:=three_cells K2.out.box
     go_wp2_with fail
     refine (AW.out _ K2.out.low).mono ?_
     rintro e w3 ⟨rfl,hb⟩
     have K3:=Hd (K2.out.next hb)
     clear hb
     go_wp2_with fail
     go_ret
     exact ⟨rfl,K3.out.low⟩
   have hs1:decide (200 < (n.size:Int))=false:=by simp;omega
   have hs2 : ¬ (200:Int) < (n.size:Int):=by omega
   have HL2:Hid (S.defs.length≤4000):=Hd (Nat.le_trans (defs_len S.defs).1 H4.out)
   cases hl0:((l.length:Int) == 0) with
   | true =>
     go_wp2_with fail
     refine (LG.out _ HK1.out.low).mono ?_
     rintro e w2 ⟨rfl,hb⟩
     have K2:=Hd (HK1.out.next hb)
     clear hb z0 z1 z2 LG
     obtain ⟨z0,z1,z2⟩:=three_cells K2.out.box
     go_wp2_with fail
     refine (AW.out _ K2.out.low).mono ?_
     rintro e w3 ⟨rfl,hb⟩
     have K3:=Hd (K2.out.next hb)
     clear hb
     go_wp2_with fail
     go_ret
     exact ⟨rfl,K3.out.low⟩
   | false =>
     by_cases hm:20 < l.length
     · have hm1:decide (20 < (l.length:Int))=true:=by simp;omega
       have hm2:(20:Int) < (l.length:Int):=by omega
       go_wp2_with fail
       refine (LG.out _ HK1.out.low).mono ?_
       rintro e w2 ⟨rfl,hb⟩
       have K2:=Hd (HK1.out.next hb)
       clear hb z0 z1 z2 LG
       obtain ⟨z0,z1,z2⟩:=three_cells K2.out.box
       go_wp2_with fail
       refine (AW.out _ K2.out.low).mono ?_
       rintro e w3 ⟨rfl,hb⟩
       have K3:=Hd (K2.out.next hb)
       clear hb
       go_wp2_with fail
       go_ret
       exact ⟨rfl,K3.out.low⟩
     have hm1:decide (20 < (l.length:Int))=false:=by simp;omega
     have hm2 : ¬ (20:Int) < (l.length:Int):=by omega
     go_wp2_with fail
     refine (LG.out _ HK1.out.low).mono ?_
     rintro e w2 ⟨rfl,hb⟩
     have K2:=Hd (HK1.out.next hb)
     clear hb z0 z1 z2 LG
     obtain ⟨z0,z1,z2⟩:=three_cells K2.out.box
     have CK1:=Hd (CK.out HOK1.out)
     have HZK:=Hd (fun (h:checkS S=0) (hl:l ≠ [])=>grow_iff (n:=n) h hl)
     clear CK
     obtain ⟨kz,hkz⟩:∃ x,checkS S=x:=⟨_,rfl⟩
     rw [hkz] at CK1 HZK
     clear hkz
     cases e0:(kz == 0) with
     | false =>
       go_wp2_with fail
       refine (CK1.out _ K2.out.low).mono ?_
       rintro e w3 ⟨rfl,hb⟩
       have K3:=Hd (K2.out.next hb)
       clear hb
       go_wp2_with fail
       refine (AW.out _ K3.out.low).mono ?_
       rintro e w4 ⟨rfl,hb⟩
       have K4:=Hd (K3.out.next hb)
       clear hb
       go_wp2_with fail
       go_ret
       exact ⟨rfl,K4.out.low⟩
     | true =>
       have e1:kz=0:=eq_of_beq e0
       subst e1
       have HGR:=Hd (HZK.out rfl (fun e=>by rw [e] at hl0;simp at hl0))
       go_wp2_with fail
       refine (CK1.out _ K2.out.low).mono ?_
       rintro e w3 ⟨rfl,hb⟩
       have K3:=Hd (K2.out.next hb)
       clear hb CK1 K2 HK1 z0 z1 z2 HZK e0
       obtain ⟨z0,z1,z2⟩:=three_cells K3.out.box
       have hsz1:n.size≤9223372036854775807:=by have:=HN.out;omega
       obtain ⟨nb,hnb⟩:∃ b,nameB n.data.toList=b:=⟨_,rfl⟩
       have NA1:=Hd (NA.out n hsz1)
       rw [hnb] at NA1
       have HNB:=Hd hnb
       clear hnb
       go_upto_region 3 with fail
       go_cut [7] (fun g wx=>g=.bool (nb && !resB n)∧KSB w #[.slice A S.defs.length k,.string S.query,.string S.mutation] wx)
       case first =>
        cases nb with
        | false =>
          go_wp2_with fail
          refine (NA1.out _).mono ?_
          rintro e w4 ⟨rfl,hb⟩
          have K4:=Hd (K3.out.next hb)
          clear hb
          go_wp2_with fail
          go_meet
          exact ⟨rfl,K4.out⟩
        | true =>
          by_cases h1:1 < n.size
          · have h2:decide (1 < (n.size:Int))=true:=by simp;omega
            have h3:(1:Int) < (n.size:Int):=by omega
            have h4:2≤n.size:=by omega
            have h5:(2:Int)≤(n.size:Int):=by omega
            go_wp2_with fail
            refine (NA1.out _).mono ?_
            rintro e w4 ⟨rfl,hb⟩
            have K4:=Hd (K3.out.next hb)
            clear hb
            go_wp2_with fail
            go_meet
            exact ⟨by rw [res_long h4,Bool.true_and],K4.out⟩
          · have h2:decide (1 < (n.size:Int))=false:=by simp;omega
            have h3 : ¬ (1:Int) < (n.size:Int):=by omega
            go_wp2_with fail
            refine (NA1.out _).mono ?_
            rintro e w4 ⟨rfl,hb⟩
            have K4:=Hd (K3.out.next hb)
            clear hb
            go_wp2_with fail
            go_meet
            exact ⟨by rw [res_short h1];rfl,K4.out⟩
       case rest =>
        obtain ⟨rfl,hk4⟩:=hcut
        have K4:=Hd hk4
        obtain ⟨b0,hb0⟩:∃ b,(nb && !resB n)=b:=⟨_,rfl⟩
        rw [hb0]
        have HB0:=Hd hb0
        clear hk4 hb0 z0 z1 z2 K3 NA1
        obtain ⟨z0,z1,z2⟩:=three_cells K4.out.box
        go_upto_region 4 with fail
        go_cut [9] (fun t wx=>t=.bool (findD S.defs n).2∧KSB w #[.slice A S.defs.length k,.string S.query,.string S.mutation] wx)
        case first =>
          go_wp2_with fail
          refine (FI.out _ K4.out.low).mono ?_
          rintro e w5 ⟨d0,d1,d2,d3,d4,d5,rfl,hT,hb⟩
          obtain ⟨Af,kf,Ax,kx,Ap,kp,Am,km,ee,_⟩:=defn_cells hT
          simp only [List.cons.injEq,and_true] at ee
          obtain ⟨rfl,rfl,rfl,rfl,rfl,rfl⟩:=ee
          have K5:=Hd (K4.out.next hb)
          clear hb hT
          go_wp2_with fail
          go_meet
          exact ⟨rfl,K5.out.next (dbelow_new _ _)⟩
        case rest =>
          obtain ⟨rfl,hk5⟩:=hcut
          have K5:=Hd hk5
          clear hk5 z0 z1 z2 K4 FI
          generalize (findD S.defs n).2=th at HGR ⊢
          go_wp2_with fail
          go_loopg [7,10,11] l.length (fun g gd i kk wx=>∃ q:Nat,q+g=l.length∧gd=.bool (b0 && gdB l q)∧i=.int .i64 q∧(∀ j s,j < q→l[j]? = some s→s.size≤200)∧KSB w #[.slice A S.defs.length k,.string S.query,.string S.mutation] wx)
          case atStart=>exact ⟨0,by omega,by rw [gdB,Bool.and_true],rfl,fun j s hj=>by omega,K5.out⟩
          case round =>
            obtain ⟨q,hq,rfl,rfl,hsm,hb⟩:=hrel
            have KR:=Hd hb
            have HSM:=Hd hsm
            clear hb hsm
            obtain ⟨z0,z1,z2⟩:=three_cells KR.out.box
            cases gk with
            | zero =>
              obtain rfl:q=l.length:=by omega
              rw [gd_all]
              obtain ⟨gf,hgf⟩:∃ b,(b0 && (l.all enB && diffB l))=b:=⟨_,rfl⟩
              rw [hgf]
              have HGF:Hid ((checkS (growS S n l) == 0)=(gf && !th)):=Hd (by
                rw [HGR.out,← hgf,← HB0.out,← HNB.out]
                unfold newB
                cases nameB n.data.toList<;>cases resB n<;>rfl)
              clear hgf
              have HOG1:=Hd (HOG.out H4.out (by omega) (by omega) (fun s hs=>by
                obtain ⟨t,ht⟩:=List.getElem?_of_mem hs
                exact HSM.out t s (List.getElem?_eq_some_iff.1 ht).1 ht))
              obtain ⟨news,hn1,hn2⟩:=g_cells (HR.out _ KR.out.low)
              have hnl:news.length=S.defs.length*6:=tlv_len len_dfn hn1
              have hno:∀ u,u ∈ news→u.oneCell'=true:=tlv_one one_dfn hn1
              have HM:=Hd hn1
              clear hn1
              go_upto_region 15 with fail
              go_wp2_with (at_builtin;first|(refine g_append rfl _ _ 22 rfl wr.heap.size 37 i0 z 6 120 Tryz.underlying22 hi hz0 hz1 hz2 hz3 (by decide) _ 0 [] rfl (World.ownsRow_nil wr wr.heap.size 37 6) A S.defs.length k news rfl hnl hn2 hno (by unfold maxLen;omega) (by have:=HZ0.out;omega) (Nat.le_refl _) ?_;intro V4 w4 hown hgrow;have HG4:=Hd hgrow;have HO4:=Hd hown;have HB4:=Hd (below_grown (B:=wr.heap.size) (Below.refl _ _) HG4.out (Nat.le_refl _) (fun b hb=>by have e:none=some b:=hb;cases e));clear hown hgrow)|(refine g_append rfl _ _ 22 rfl wr.heap.size 37 i0 z 6 120 Tryz.underlying22 hi hz0 hz1 hz2 hz3 (by decide) _ (0+S.defs.length) ([]++news) rfl (own_low HO4.out (dbelow_new _ _)) (some ⟨w4.heap.size,0,none⟩) 1 1 [.int .i64 4,.string n,.slice none 0 0,.slice none 0 0,.slice Al l.length cl,.slice none 0 0] rfl rfl (enum_new w4 n l Al cl) (by intro y hy;simp at hy;rcases hy with rfl|rfl|rfl|rfl|rfl<;>rfl) (by unfold maxLen;have:=HZ0.out;omega) (by have h:=HOK1.out.slim.1;have:=HL2.out;omega) (Nat.le_trans HB4.out.size (dbelow_new _ _).size) ?_;intro V5 w5 hown hgrow;have HB5:=Hd (below_grown (HB4.out.trans ((dbelow_new _ _).mono HB4.out.size)) hgrow (Nat.le_trans HB4.out.size (dbelow_new _ _).size) (fun b hb=>(World.ownsRow.lt HO4.out b hb).1));have HO5:=Hd hown;have HK5:=Hd (KR.out.next HB5.out);clear hown hgrow;obtain ⟨A5,c5,rfl⟩:=shape_own HO5.out;obtain ⟨x0,x1,x2⟩:=three_cells HK5.out.box;have f5:w5.frozen? ⟨w.heap.size,0,none⟩=false:=cells_frozen HK5.out.box 0;clear z0 z1 z2))
              have e5:S.defs.length+1=(growS S n l).defs.length:=(grow_len S n l).symm
              rw [Nat.zero_add,e5] at HO5
              rw [e5]
              have HK6:=Hd (HK5.out.set (.slice A5 (growS S n l).defs.length c5))
              have T1:TLV w5 (fun b=>b < w.heap.size) (rowOf encDefn [enumD n l]) [.int .i64 4,.string n,.slice none 0 0,.slice none 0 0,.slice Al l.length cl,.slice none 0 0]:=⟨_,[],(List.append_nil _).symm,enum_ts hsz1 (by omega) (HRL.out _ HK5.out.low),rfl⟩
              have D5:DefsO w.heap.size wr.heap.size w5 (.slice A5 (growS S n l).defs.length c5) (growS S n l).defs:=⟨_,HO5.out,g_tlv T1 (TLV.keep (fun b hb=>⟨hb,HB5.out.block b (Nat.lt_of_lt_of_le hb KR.out.low.size)⟩) HM.out)⟩
              obtain ⟨A',c',e,hr⟩:=D5.rowX (Nat.le_refl _) KR.out.lt
              injection e with e1 _ e3
              subst e1 e3
              have CT1:=Hd (CT.out HOG1.out (by have:=HL2.out;omega) A5 c5 _ HK6.out.low (row_set hr))
              generalize hw6:w5.setCell ⟨w.heap.size,0,none⟩ (Value.slice A5 (growS S n l).defs.length c5)=w6 at HK6 CT1 ⊢
              clear hw6
              obtain ⟨kz2,hk2⟩:∃ x,checkS (growS S n l)=x:=⟨_,rfl⟩
              rw [hk2] at CT1 HGF
              clear hk2 D5 HO5 HK5 HB5 hr CT f5 x0 x1 x2
              refine CT1.out.mono ?_
              rintro e w7 ⟨rfl,hb⟩
              have HK7:=Hd (HK6.out.next hb)
              clear hb
              have hgf:=HGF.out
              cases gf<;>cases th<;>simp only [Bool.not_true,Bool.not_false,Bool.and_true,Bool.and_false] at hgf
              all_goals
                go_wp2_with fail
                refine (AW.out _ HK7.out.low).mono ?_
                rintro e w8 ⟨rfl,hb⟩
                have HK8:=Hd (HK7.out.next hb)
                clear hb
                go_wp2_with fail
                go_ret
                exact ⟨rfl,HK8.out.low⟩
            | succ g1 =>
              have hqn:q < l.length:=by omega
              have hqn':(q:Int) < (l.length:Int):=by omega
              obtain ⟨x,hx⟩:∃ x,l[q]? = some x:=⟨_,List.getElem?_eq_getElem hqn⟩
              have HX:=Hd hx
              obtain ⟨bl,ol,rfl,hbl,y0,hxs⟩:=str_at (HRL.out _ KR.out.low) hx
              clear hx
              by_cases hs8:200 < x.size
              · have hs6:decide (200 < (x.size:Int))=true:=by simp;omega
                have hs7:(200:Int) < (x.size:Int):=by omega
                go_wp2_with fail
                refine (AW.out _ KR.out.low).mono ?_
                rintro e w9 ⟨rfl,hb⟩
                have K9:=Hd (KR.out.next hb)
                clear hb
                go_wp2_with fail
                go_ret
                exact ⟨rfl,K9.out.low⟩
              have hs6:decide (200 < (x.size:Int))=false:=by simp;omega
              have hs7 : ¬ (200:Int) < (x.size:Int):=by omega
              obtain ⟨gg,hgg⟩:∃ b,(b0 && gdB l q)=b:=⟨_,rfl⟩
              rw [hgg]
              have HGG:=Hd hgg
              clear hgg
              obtain ⟨nx,hnx⟩:∃ b,nameB x.data.toList=b:=⟨_,rfl⟩
              have NA2:=Hd (NA.out x hxs)
              have HEN:=Hd (enB_law x)
              rw [hnx] at NA2 HEN
              clear hnx
              go_upto_region 10 with fail
              go_cut [7] (fun g wx=>g=.bool (gg && enB x)∧KSB w #[.slice A S.defs.length k,.string S.query,.string S.mutation] wx)
              case first =>
                cases gg with
                | false =>
                  go_wp2_with fail
                  go_meet
                  exact ⟨rfl,KR.out⟩
                | true =>
                  cases nx with
                  | false =>
                    go_wp2_with fail
                    refine (NA2.out _).mono ?_
                    rintro e w6 ⟨rfl,hb⟩
                    have K6:=Hd (KR.out.next hb)
                    clear hb
                    go_wp2_with fail
                    go_meet
                    exact ⟨by rw [HEN.out];rfl,K6.out⟩
                  | true =>
                    have HBR:Hid (bl < wr.heap.size):=Hd (Nat.lt_of_lt_of_le hbl KR.out.low.size)
                    cases e1:(x.toList == [116,114,117,101]) with
                    | true =>
                      go_wp2_with fail
                      refine (NA2.out _).mono ?_
                      rintro e w6 ⟨rfl,hb⟩
                      have K6:=Hd (KR.out.next hb)
                      have y6:=(hb.cell (p:=⟨bl,ol+q,none⟩) HBR.out).trans y0
                      clear hb
                      go_wp2_with fail
                      go_meet
                      exact ⟨by rw [HEN.out];simp only [bne,e1,Bool.not_true,Bool.true_and,Bool.false_and],K6.out⟩
                    | false =>
                      cases e2:(x.toList == [102,97,108,115,101]) with
                      | true =>
                        go_wp2_with fail
                        refine (NA2.out _).mono ?_
                        rintro e w6 ⟨rfl,hb⟩
                        have K6:=Hd (KR.out.next hb)
                        have y6:=(hb.cell (p:=⟨bl,ol+q,none⟩) HBR.out).trans y0
                        clear hb
                        go_wp2_with fail
                        go_meet
                        exact ⟨by rw [HEN.out];simp only [bne,e1,e2,Bool.not_true,Bool.not_false,Bool.true_and,Bool.false_and],K6.out⟩
                      | false =>
                        cases e3:(x.toList == [110,117,108,108]) with
                        | true =>
                          go_wp2_with fail
                          refine (NA2.out _).mono ?_
                          rintro e w6 ⟨rfl,hb⟩
                          have K6:=Hd (KR.out.next hb)
                          have y6:=(hb.cell (p:=⟨bl,ol+q,none⟩) HBR.out).trans y0
                          clear hb
                          go_wp2_with fail
                          go_meet
                          exact ⟨by rw [HEN.out];simp only [bne,e1,e2,e3,Bool.not_true,Bool.not_false,Bool.true_and],K6.out⟩
                        | false =>
                          go_wp2_with fail
                          refine (NA2.out _).mono ?_
                          rintro e w6 ⟨rfl,hb⟩
                          have K6:=Hd (KR.out.next hb)
                          have y6:=(hb.cell (p:=⟨bl,ol+q,none⟩) HBR.out).trans y0
                          clear hb
                          go_wp2_with fail
                          go_meet
                          exact ⟨by rw [HEN.out];simp only [bne,e1,e2,e3,Bool.not_false,Bool.and_true],K6.out⟩
              case rest =>
                obtain ⟨rfl,hk6⟩:=hcut
                have K6:=Hd hk6
                have HB6:=Hd (Nat.lt_of_lt_of_le hbl KR.out.low.size)
                clear hk6 z0 z1 z2 y0
                obtain ⟨g2,hg2⟩:∃ b,(gg && enB x)=b:=⟨_,rfl⟩
                rw [hg2]
                have HG2:=Hd hg2
                clear hg2
                go_wp2_with fail
                go_loopg [7,11] q (fun g gd kk wx=>∃ j:Nat,j+g=q∧gd=.bool (g2 && (l.take j).all fun y=>x.toList != y.toList)∧kk=.int .i64 j∧KSB w #[.slice A S.defs.length k,.string S.query,.string S.mutation] wx)
                case atStart=>exact ⟨0,by omega,by simp,rfl,K6.out⟩
                case round =>
                  obtain ⟨j,hj,rfl,rfl,hb⟩:=hrel
                  have KT:=Hd hb
                  clear hb
                  obtain ⟨z0,z1,z2⟩:=three_cells KT.out.box
                  cases gk with
                  | zero =>
                    obtain rfl:j=q:=by omega
                    go_wp2_with fail
                    go_roundg g1
                    case measure=>omega
                    case rel =>
                      refine ⟨j+1,by omega,?_,by go_num,fun t s ht hs=>?_,KT.out⟩
                      · rw [gd_next HX.out,← HG2.out,← HGG.out,Bool.and_assoc,Bool.and_assoc]
                      · rcases Nat.lt_or_ge t j with h|h
                        · exact HSM.out t s h hs
                        · obtain rfl:t=j:=by omega
                          rw [HX.out] at hs
                          injection hs with hs
                          subst hs
                          omega
                  | succ g3 =>
                    have hjq:j < q:=by omega
                    have hjq':(j:Int) < (q:Int):=by omega
                    obtain ⟨y,hy⟩:∃ y,l[j]? = some y:=⟨_,List.getElem?_eq_getElem (by omega)⟩
                    have HTK:Hid (((l.take (j+1)).all fun y=>x.toList != y.toList)=(((l.take j).all fun y=>x.toList != y.toList) && (x.toList != y.toList))):=Hd (by rw [List.take_add_one,hy,List.all_append];simp)
                    obtain ⟨b',o',e',_,y1,_⟩:=str_at (HRL.out _ KT.out.low) hy
                    injection e' with e'
                    injection e' with e1 e2
                    subst e1 e2
                    obtain ⟨b',o',e',_,y0,_⟩:=str_at (HRL.out _ KT.out.low) HX.out
                    injection e' with e'
                    injection e' with e1 e2
                    subst e1 e2
                    have hjl:j < l.length:=by omega
                    have hjl':(j:Int) < (l.length:Int):=by omega
                    clear hy
                    obtain ⟨ga,hga⟩:∃ b,(g2 && (l.take j).all fun y=>x.toList != y.toList)=b:=⟨_,rfl⟩
                    rw [hga]
                    have HGA:=Hd hga
                    clear hga
                    cases ga with
                    | false =>
                      go_wp2_with fail
                      go_quiet (fail)
                      go_wp2_with fail
                      go_roundg g3
                      case measure=>omega
                      case rel=>exact ⟨j+1,by omega,by rw [HTK.out,← Bool.and_assoc,HGA.out];rfl,by go_num,KT.out.next (Blk.below_draws (Below.refl _ _) _)⟩
                    | true =>
                      cases e3:(x.toList == y.toList) with
                      | true =>
                        go_wp2_with fail
                        go_quiet (fail)
                        go_wp2_with fail
                        go_roundg g3
                        case measure=>omega
                        case rel=>exact ⟨j+1,by omega,by rw [HTK.out,← Bool.and_assoc,HGA.out];simp only [bne,e3,Bool.not_true,Bool.and_false],by go_num,KT.out.next (Blk.below_draws (Below.refl _ _) _)⟩
                      | false =>
                        go_wp2_with fail
                        go_quiet (fail)
                        go_wp2_with fail
                        go_roundg g3
                        case measure=>omega
                        case rel=>exact ⟨j+1,by omega,by rw [HTK.out,← Bool.and_assoc,HGA.out];simp only [bne,e3,Bool.not_false,Bool.and_true],by go_num,KT.out.next (Blk.below_draws (Below.refl _ _) _)⟩
end Go.Proofs.YtaekdfcpbepepaaGreatDoor.LSGrow
