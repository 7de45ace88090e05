/- The walk of the law BindPlain. (gen_bplain.py wrote it.) -/
import Derived.Test.YtaekdfcpbepepaaGreatDoorQb46
set_option maxRecDepth 100000
set_option maxHeartbeats 8000000
namespace Go.Proofs.YtaekdfcpbepepaaGreatDoor.LBPlain
open Go.RowKit
structure K2B (w:World) (gf:Nat) (s f:Obj) (W:World):Prop where
 low:Below w.heap.size w W
 s:W.heap[w.heap.size]? = some s
 f:W.heap[gf]? = some f
theorem K2B.next {w W W':World} {gf:Nat} {s f:Obj} (h:K2B w gf s f W) (hb:Below W.heap.size W W'):K2B w gf s f W':=
 ⟨h.low.trans (hb.mono h.low.size),(hb.block _ (Array.getElem?_eq_some_iff.1 h.s).1).trans h.s,(hb.block _ (Array.getElem?_eq_some_iff.1 h.f).1).trans h.f⟩
theorem plain_of {S:SchT} {typ:ByteArray} {f:FieldT} (hn:(f.name.toList == tnB)=false):ofT S typ ⟨f.name,f.params,f.tn,f.tl,f.tm,[]⟩=if (leafD S.defs f.tn && !changesB S typ)=true then (⟨0,⟨#[]⟩,f.name,⟨#[]⟩,⟨#[]⟩⟩,true) else (noneB,false):=by
 have h:ofOkB S typ ⟨f.name,f.params,f.tn,f.tl,f.tm,[]⟩=(leafD S.defs f.tn && !changesB S typ):=by
  unfold ofOkB
  show (true && (!(f.name.toList == tnB) && (leafD S.defs f.tn && (false == changesB S typ))))=_
  rw [hn]
  cases leafD S.defs f.tn<;>cases changesB S typ<;>rfl
 unfold ofT
 rw [h]
 rfl
theorem walk (w:World) (S:SchT) (c0 c1 c2:Value) (typ:ByteArray) (f:FieldT) (d0 d1 d2 d3 d4 d5:Value) (hw:Laid5 w) (hz:SlimS S) (hlg:ligN S≤1048576) (htyp:typ.size≤140737488355328) (hfn:f.name.size≤140737488355328) (hS:TS w (fun b=>b < w.heap.size) (encSch S) [c0,c1,c2]) (hF:TS w (fun b=>b < w.heap.size) (encField f) [d0,d1,d2,d3,d4,d5]) :
   Calls Tryz.prog 10 #[.agg #[c0,c1,c2],.string typ,.agg #[d0,d1,d2,d3,d4,d5]] w fun e w'=>e=.returned (.bool true)∧Below w.heap.size w w':=by
 obtain ⟨Ap,kp,Ad,kd,e,⟨hn1,htn⟩,⟨hl1,hR1⟩,_,_⟩:=fld_cells hF
 simp only [List.cons.injEq,and_true] at e
 obtain ⟨rfl,rfl,rfl,rfl,rfl,rfl⟩:=e
 obtain ⟨A,k,e,hl,hR⟩:=sch_cells hS
 injection e with e0 e
 injection e with e1 e
 injection e with e2 e
 subst e0 e1 e2
 have HF':TS w (fun b=>b < w.heap.size) (encField ⟨f.name,f.params,f.tn,f.tl,f.tm,[]⟩) [.string f.name,.slice Ap f.params.length kp,.string f.tn,.int .i64 f.tl,.int .i64 f.tm,.slice none 0 0]:=
   fld_ts (x:=⟨f.name,f.params,f.tn,f.tl,f.tm,[]⟩) ⟨hn1,htn⟩ hl1 (by simp) hR1 nil_row
 have LG:=Hd (fun (wx:World) (h:Below w.heap.size w wx)=>lightN_any S _ _ _ wx w.heap.size h.size (TS.low h hS) hlg)
 have OF:=Hd (fun (wx:World) (h:Below w.heap.size w wx)=>of_any S typ ⟨f.name,f.params,f.tn,f.tl,f.tm,[]⟩ _ _ _ _ _ _ _ _ _ wx w.heap.size h.size hz (TS.low h hS) (TS.low h HF'))
 have LF:=Hd (fun (wx:World) (h:Below w.heap.size w wx)=>leaf_any S f.tn _ _ _ wx w.heap.size h.size htn (TS.low h hS))
 have AW:=Hd (fun (wx:World) (h:Below w.heap.size w wx)=>baw_any wx (hw.below h))
 clear hw hz hlg hS hR hF HF' e htn hn1 hl1 hR1
 obtain ⟨gf,hgf⟩:∃ g,w.heap.size+1=g:=⟨_,rfl⟩
 have hb2:=tbl w (.cells #[.slice A S.defs.length k,.string S.query,.string S.mutation] 24) (.cells #[.string f.name,.slice Ap f.params.length kp,.string f.tn,.int .i64 f.tl,.int .i64 f.tm,.slice Ad f.dirs.length kd] 46)
 have K1:K2B w gf (.cells #[.slice A S.defs.length k,.string S.query,.string S.mutation] 24) (.cells #[.string f.name,.slice Ap f.params.length kp,.string f.tn,.int .i64 f.tl,.int .i64 f.tm,.slice Ad f.dirs.length kd] 46) ((w.alloc (.cells #[.slice A S.defs.length k,.string S.query,.string S.mutation] 24)).alloc (.cells #[.string f.name,.slice Ap f.params.length kp,.string f.tn,.int .i64 f.tl,.int .i64 f.tm,.slice Ad f.dirs.length kd] 46)):=⟨hb2,((dbelow_new (w.alloc (.cells #[.slice A S.defs.length k,.string S.query,.string S.mutation] 24)) (.cells #[.string f.name,.slice Ap f.params.length kp,.string f.tn,.int .i64 f.tl,.int .i64 f.tm,.slice Ad f.dirs.length kd] 46)).block w.heap.size (by simp)).trans (heap_alloc_new w (.cells #[.slice A S.defs.length k,.string S.query,.string S.mutation] 24)),by rw [← hgf];exact heap_two w (.cells #[.slice A S.defs.length k,.string S.query,.string S.mutation] 24) (.cells #[.string f.name,.slice Ap f.params.length kp,.string f.tn,.int .i64 f.tl,.int .i64 f.tm,.slice Ad f.dirs.length kd] 46)⟩
 have HK0:=Hd K1
 have HLG:Hid (w.heap.size < gf):=Hd (by omega)
 clear K1 hb2
 go_enter Tryz.func10,Tryz.ntmps10
 go_upto_region 1 with fail
 generalize (w.alloc (.cells #[.slice A S.defs.length k,.string S.query,.string S.mutation] 24)).alloc (.cells #[.string f.name,.slice Ap f.params.length kp,.string f.tn,.int .i64 f.tl,.int .i64 f.tm,.slice Ad f.dirs.length kd] 46)=w0 at HK0 ⊢
 clear hgf
 obtain ⟨⟨v0,v1,v2,v3,v4,v5⟩,q0,q1,q2,q3,q4,q5⟩:=six_cells HK0.out.f
 go_upto_region 2 with fail
 have HK1:Hid (K2B w gf (.cells #[.slice A S.defs.length k,.string S.query,.string S.mutation] 24) (.cells #[.string f.name,.slice Ap f.params.length kp,.string f.tn,.int .i64 f.tl,.int .i64 f.tm,.slice none 0 0] 46) (w0.setCell ⟨gf,5,none⟩ (.slice none 0 0))):=Hd ⟨HK0.out.low.setCell (p:=⟨gf,5,none⟩) (Nat.le_of_lt HLG.out) _,(Below.heap_setCell _ _ _ _ (fun e=>by have:=HLG.out;have e:w.heap.size=gf:=e;omega)).trans HK0.out.s,by simp [World.setCell,Array.getElem?_modify,HK0.out.f]⟩
 generalize w0.setCell ⟨gf,5,none⟩ (.slice none 0 0)=w1 at HK1 ⊢
 clear v0 v1 v2 v3 v4 v5 q0 q1 q2 q3 q4 q5 HK0
 obtain ⟨z0,z1,z2⟩:=three_cells HK1.out.s
 obtain ⟨⟨v0,v1,v2,v3,v4,v5⟩,_⟩:=six_cells HK1.out.f
 obtain ⟨lb,hlb⟩:∃ b,decide (((ligN S:Nat):Int)≤4000)=b:=⟨_,rfl⟩
 rw [hlb] at LG
 clear hlb
 cases lb with
 | false =>
   go_wp2_with fail
   refine (LG.out _ HK1.out.low).mono ?_
   rintro e w2 ⟨rfl,hb⟩
   have K2:=Hd (HK1.out.next hb)
   clear hb z0 z1 z2 v0 v1 v2 v3 v4 v5 LG HK1
   obtain ⟨z0,z1,z2⟩:=three_cells K2.out.s
   obtain ⟨⟨v0,v1,v2,v3,v4,v5⟩,_⟩:=six_cells K2.out.f
   go_wp2_with fail
   refine (AW.out _ K2.out.low).mono ?_
   rintro e w9 ⟨rfl,hb⟩
   have K9:=Hd (K2.out.next hb)
   clear hb
   go_wp2_with fail
   go_ret
   exact ⟨rfl,K9.out.low⟩
 | true =>
   by_cases hs:2000 < f.name.size+typ.size
   · have hs1:decide (2000 < (f.name.size:Int)+(typ.size:Int))=true:=decide_eq_true (by omega)
     have hs2:(2000:Int) < (f.name.size:Int)+(typ.size:Int):=by omega
     go_wp2_with fail
     refine (LG.out _ HK1.out.low).mono ?_
     rintro e w2 ⟨rfl,hb⟩
     have K2:=Hd (HK1.out.next hb)
     clear hb z0 z1 z2 v0 v1 v2 v3 v4 v5 LG HK1
     obtain ⟨z0,z1,z2⟩:=three_cells K2.out.s
     obtain ⟨⟨v0,v1,v2,v3,v4,v5⟩,_⟩:=six_cells K2.out.f
     go_wp2_with fail
     refine (AW.out _ K2.out.low).mono ?_
     rintro e w9 ⟨rfl,hb⟩
     have K9:=Hd (K2.out.next hb)
     clear hb
     go_wp2_with fail
     go_ret
     exact ⟨rfl,K9.out.low⟩
   have hs1:decide (2000 < (f.name.size:Int)+(typ.size:Int))=false:=decide_eq_false (by omega)
   have hs2 : ¬ (2000:Int) < (f.name.size:Int)+(typ.size:Int):=by omega
   cases hnm:(f.name.toList == tnB) with
   | true =>
     unfold tnB at hnm
     go_wp2_with fail
     refine (LG.out _ HK1.out.low).mono ?_
     rintro e w2 ⟨rfl,hb⟩
     have K2:=Hd (HK1.out.next hb)
     clear hb z0 z1 z2 v0 v1 v2 v3 v4 v5 LG HK1
     obtain ⟨z0,z1,z2⟩:=three_cells K2.out.s
     obtain ⟨⟨v0,v1,v2,v3,v4,v5⟩,_⟩:=six_cells K2.out.f
     go_wp2_with fail
     refine (AW.out _ K2.out.low).mono ?_
     rintro e w9 ⟨rfl,hb⟩
     have K9:=Hd (K2.out.next hb)
     clear hb
     go_wp2_with fail
     go_ret
     exact ⟨rfl,K9.out.low⟩
   | false =>
     have HP:=Hd (plain_of (S:=S) (typ:=typ) hnm)
     unfold tnB at hnm
     go_wp2_with fail
     refine (LG.out _ HK1.out.low).mono ?_
     rintro e w2 ⟨rfl,hb⟩
     have K2:=Hd (HK1.out.next hb)
     clear hb z0 z1 z2 v0 v1 v2 v3 v4 v5 LG HK1
     obtain ⟨z0,z1,z2⟩:=three_cells K2.out.s
     obtain ⟨⟨v0,v1,v2,v3,v4,v5⟩,_⟩:=six_cells K2.out.f
     rw [HP.out] at OF
     clear HP
     have HCB:Hid (changesB S typ=(!(S.mutation.toList == []) && (typ.toList == S.mutation.toList))):=Hd rfl
     generalize leafD S.defs f.tn=lf at OF LF
     generalize changesB S typ=cb at OF HCB
     go_upto_region 4 with fail
     clear hnm
     obtain ⟨x,ok,hx⟩:∃ x o,(if (lf && !cb)=true then ((⟨0,⟨#[]⟩,f.name,⟨#[]⟩,⟨#[]⟩⟩:BindT),true) else (noneB,false))=(x,o):=⟨_,_,rfl⟩
     have HX:=Hd hx
     rw [hx] at OF
     clear hx
     go_wp2_with fail
     refine (OF.out _ K2.out.low).mono ?_
     rintro e w3 ⟨rfl,hb⟩
     have K3:=Hd (K2.out.next hb)
     clear hb z0 z1 z2 v0 v1 v2 v3 v4 v5 OF K2
     unfold bindV
     go_upto_region 5 with fail
     have K4:=Hd (K3.out.next (dbelow_new w3 (.cells #[.int .i64 x.how,.string x.table,.string x.col,.string x.arg,.string x.cmd] 51)))
     have X4:=Hd (heap_alloc_new w3 (.cells #[.int .i64 x.how,.string x.table,.string x.col,.string x.arg,.string x.cmd] 51))
     generalize w3.alloc (.cells #[.int .i64 x.how,.string x.table,.string x.col,.string x.arg,.string x.cmd] 51)=w4 at K4 X4 ⊢
     generalize w3.heap.size=gx at X4 ⊢
     clear K3
     obtain ⟨z0,z1,z2⟩:=three_cells K4.out.s
     obtain ⟨⟨v0,v1,v2,v3,v4,v5⟩,_⟩:=six_cells K4.out.f
     go_wp2_with fail
     refine (LF.out _ K4.out.low).mono ?_
     rintro e w5 ⟨rfl,hb⟩
     have K5:=Hd (K4.out.next hb)
     have X5:=Hd ((hb.block _ (Array.getElem?_eq_some_iff.1 X4.out).1).trans X4.out)
     clear hb z0 z1 z2 v0 v1 v2 v3 v4 v5 LF K4 X4
     cases lf with
     | false =>
       have hx:=HX.out
       rw [HCB.out] at hx
       have hx:(noneB,false)=(x,ok):=hx
       injection hx with hx1 hx2
       subst hx1 hx2
       have Y5:Hid (w5.heap[gx]? = some (.cells #[.int .i64 0,.string ⟨#[]⟩,.string ⟨#[]⟩,.string ⟨#[]⟩,.string ⟨#[]⟩] 51 (0,0))):=Hd X5.out
       clear X5 HX HCB
       obtain ⟨z0,z1,z2⟩:=three_cells K5.out.s
       obtain ⟨⟨v0,v1,v2,v3,v4,v5⟩,_⟩:=six_cells K5.out.f
       obtain ⟨y0,y1,y2,y3,y4,_⟩:=gvc Y5.out
       go_wp2_with fail
       refine (AW.out _ K5.out.low).mono ?_
       rintro e w9 ⟨rfl,hb⟩
       have K9:=Hd (K5.out.next hb)
       clear hb
       go_wp2_with fail
       go_ret
       exact ⟨rfl,K9.out.low⟩
     | true =>
       cases em:(S.mutation.toList == []) with
       | true =>
         have hx:=HX.out
         rw [HCB.out,em] at hx
         have hx:((⟨0,⟨#[]⟩,f.name,⟨#[]⟩,⟨#[]⟩⟩:BindT),true)=(x,ok):=hx
         injection hx with hx1 hx2
         subst hx1 hx2
         have Y5:Hid (w5.heap[gx]? = some (.cells #[.int .i64 0,.string ⟨#[]⟩,.string f.name,.string ⟨#[]⟩,.string ⟨#[]⟩] 51 (0,0))):=Hd X5.out
         clear X5 HX HCB
         obtain ⟨z0,z1,z2⟩:=three_cells K5.out.s
         obtain ⟨⟨v0,v1,v2,v3,v4,v5⟩,_⟩:=six_cells K5.out.f
         obtain ⟨y0,y1,y2,y3,y4,_⟩:=gvc Y5.out
         go_wp2_with fail
         refine (AW.out _ K5.out.low).mono ?_
         rintro e w9 ⟨rfl,hb⟩
         have K9:=Hd (K5.out.next hb)
         clear hb
         go_wp2_with fail
         go_ret
         exact ⟨rfl,K9.out.low⟩
       | false =>
         cases et:(typ.toList == S.mutation.toList) with
         | true =>
           have hx:=HX.out
           rw [HCB.out,em,et] at hx
           have hx:(noneB,false)=(x,ok):=hx
           injection hx with hx1 hx2
           subst hx1 hx2
           have Y5:Hid (w5.heap[gx]? = some (.cells #[.int .i64 0,.string ⟨#[]⟩,.string ⟨#[]⟩,.string ⟨#[]⟩,.string ⟨#[]⟩] 51 (0,0))):=Hd X5.out
           clear X5 HX HCB
           obtain ⟨z0,z1,z2⟩:=three_cells K5.out.s
           obtain ⟨⟨v0,v1,v2,v3,v4,v5⟩,_⟩:=six_cells K5.out.f
           obtain ⟨y0,y1,y2,y3,y4,_⟩:=gvc Y5.out
           go_wp2_with fail
           refine (AW.out _ K5.out.low).mono ?_
           rintro e w9 ⟨rfl,hb⟩
           have K9:=Hd (K5.out.next hb)
           clear hb
           go_wp2_with fail
           go_ret
           exact ⟨rfl,K9.out.low⟩
         | false =>
           have hx:=HX.out
           rw [HCB.out,em,et] at hx
           have hx:((⟨0,⟨#[]⟩,f.name,⟨#[]⟩,⟨#[]⟩⟩:BindT),true)=(x,ok):=hx
           injection hx with hx1 hx2
           subst hx1 hx2
           have Y5:Hid (w5.heap[gx]? = some (.cells #[.int .i64 0,.string ⟨#[]⟩,.string f.name,.string ⟨#[]⟩,.string ⟨#[]⟩] 51 (0,0))):=Hd X5.out
           clear X5 HX HCB
           obtain ⟨z0,z1,z2⟩:=three_cells K5.out.s
           obtain ⟨⟨v0,v1,v2,v3,v4,v5⟩,_⟩:=six_cells K5.out.f
           obtain ⟨y0,y1,y2,y3,y4,_⟩:=gvc Y5.out
           go_wp2_with fail
           refine (AW.out _ K5.out.low).mono ?_
           rintro e w9 ⟨rfl,hb⟩
           have K9:=Hd (K5.out.next hb)
           clear hb
           go_wp2_with fail
           go_ret
           exact ⟨rfl,K9.out.low⟩
end Go.Proofs.YtaekdfcpbepepaaGreatDoor.LBPlain
