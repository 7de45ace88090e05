/- bind.fits, bind.Of. (gen_of.py wrote it.) -/
import Derived.Test.YtaekdfcpbepepaaGreatDoorQby
import Derived.Test.YtaekdfcpbepepaaGreatDoorQbz
import Derived.Test.YtaekdfcpbepepaaGreatDoorQb33
set_option maxRecDepth 100000
set_option maxHeartbeats 8000000
namespace Go.Proofs.YtaekdfcpbepepaaGreatDoor
open List renaming getElem_toArray → zgA, getElem_cons_zero → zgB, getElem_cons_succ → zgC
open Go.RowKit
structure Bx3 (w:World) (gs gf gb:Nat) (s f b:Obj) (W:World):Prop where
 low:Below w.heap.size w W
 s:W.heap[gs]? = some s
 f:W.heap[gf]? = some f
 b:W.heap[gb]? = some b
theorem Bx3.next {w W W':World} {gs gf gb:Nat} {s f b:Obj} (h:Bx3 w gs gf gb s f b W) (hb:Below W.heap.size W W'):Bx3 w gs gf gb s f b W':=
 ⟨h.low.trans (hb.mono h.low.size),(hb.block _ (Array.getElem?_eq_some_iff.1 h.s).1).trans h.s,(hb.block _ (Array.getElem?_eq_some_iff.1 h.f).1).trans h.f,(hb.block _ (Array.getElem?_eq_some_iff.1 h.b).1).trans h.b⟩
theorem Bx3.start (w:World) (s f b:Obj):Bx3 w w.heap.size (w.heap.size+1) (w.heap.size+1+1) s f b (((w.alloc s).alloc f).alloc b):=by
 have h1:(w.alloc s).heap.size=w.heap.size+1:=by simp
 have h2:((w.alloc s).alloc f).heap.size=w.heap.size+1+1:=by simp
 have b1:=dbelow_new (w.alloc s) f
 have b2:=dbelow_new ((w.alloc s).alloc f) b
 have n0:=heap_alloc_new w s
 have n1:=heap_alloc_new (w.alloc s) f
 have n2:=heap_alloc_new ((w.alloc s).alloc f) b
 rw [h1] at n1
 rw [h2] at n2
 refine ⟨(tbl w s f).trans (b2.mono (tbl w s f).size),?_,?_,n2⟩
 · exact (b2.block _ (by rw [h2];omega)).trans ((b1.block _ (by rw [h1];omega)).trans n0)
 · exact (b2.block _ (by rw [h2];omega)).trans n1
theorem bfits_any (S:SchT) (f:FieldT) (b:BindT) (c0 c1 c2 d0 d1 d2 d3 d4 d5:Value) (w:World) (B:Nat) (hB:B≤w.heap.size) (hz:SlimS S) (hS:TS w (fun b=>b < B) (encSch S) [c0,c1,c2]) (hF:TS w (fun b=>b < B) (encField f) [d0,d1,d2,d3,d4,d5]) :
   Calls Tryz.prog 51 #[.agg #[c0,c1,c2],.agg #[d0,d1,d2,d3,d4,d5],bindV b] w fun e w'=>e=.returned (.bool (fitsT S f b))∧Below w.heap.size w w':=by
 have KY:=Hd (fun (wx:World) (h:Below w.heap.size w wx)=>keys_any f b.arg d0 d1 d2 d3 d4 d5 wx B (Nat.le_trans hB h.size) (TS.low (h.mono hB) hF))
 obtain ⟨Ap,kp,Ad,kd,e,⟨_,htn⟩,_,_⟩:=fld_cells hF
 simp only [List.cons.injEq,and_true] at e
 obtain ⟨rfl,rfl,rfl,rfl,rfl,rfl⟩:=e
 have LF:=Hd (fun (wx:World) (h:Below w.heap.size w wx)=>leaf_any S f.tn c0 c1 c2 wx B (Nat.le_trans hB h.size) htn (TS.low (h.mono hB) hS))
 have RW:=Hd (fun (wx:World) (h:Below w.heap.size w wx)=>rows_any S f.tn c0 c1 c2 wx B (Nat.le_trans hB h.size) htn hz (TS.low (h.mono hB) hS))
 obtain ⟨A,k,e,_⟩:=sch_cells hS
 injection e with e0 e
 injection e with e1 e
 injection e with e2 e
 subst e0 e1 e2
 clear hB hz hS hF e htn
 have X0:=Hd (Bx3.start w (.cells #[.slice A S.defs.length k,.string S.query,.string S.mutation] 24) (.cells #[.string f.name,.slice Ap f.params.length kp,.string f.tn,.int .i64 f.tl,.int .i64 f.tm,.slice Ad f.dirs.length kd] 46) (.cells #[.int .i64 b.how,.string b.table,.string b.col,.string b.arg,.string b.cmd] 51))
 have HQ:Hid (fitsT S f b=if (b.how == 0)=true then leafD S.defs f.tn else if (b.how == 1)=true then ofRowsB S f.tn else if (b.how == 2)=true then ofRowsB S f.tn && keysP f.tl b.arg f.params else (f.tl == 0) && (leafD S.defs f.tn || ofRowsB S f.tn)):=Hd rfl
 generalize fitsT S f b=Q at HQ ⊢
 generalize leafD S.defs f.tn=lf at LF HQ
 generalize ofRowsB S f.tn=rw' at RW HQ
 generalize keysP f.tl b.arg f.params=ky at KY HQ
 unfold bindV
 go_enter Tryz.func51,Tryz.ntmps51
 go_upto_region 1 with fail
 generalize ((w.alloc (.cells #[.slice A S.defs.length k,.string S.query,.string S.mutation] 24)).alloc (.cells #[.string f.name,.slice Ap f.params.length kp,.string f.tn,.int .i64 f.tl,.int .i64 f.tm,.slice Ad f.dirs.length kd] 46)).alloc (.cells #[.int .i64 b.how,.string b.table,.string b.col,.string b.arg,.string b.cmd] 51)=w1 at X0 ⊢
 obtain ⟨z0,z1,z2⟩:=three_cells X0.out.s
 obtain ⟨⟨v0,v1,v2,v3,v4,v5⟩,_⟩:=six_cells X0.out.f
 obtain ⟨y0,y1,y2,y3,y4,_⟩:=gvc X0.out.b
 cases h0:(b.how == 0) with
 | true =>
   rw [h0] at HQ
   go_wp2_with fail
   refine (LF.out _ X0.out.low).mono ?_
   rintro e w2 ⟨rfl,hb⟩
   have X1:=Hd (X0.out.next hb)
   clear hb
   go_wp2_with fail
   go_ret
   exact ⟨by rw [HQ.out];rfl,X1.out.low⟩
 | false =>
   cases h1:(b.how == 1) with
   | true =>
     rw [h0,h1] at HQ
     go_wp2_with fail
     refine (RW.out _ X0.out.low).mono ?_
     rintro e w2 ⟨rfl,hb⟩
     have X1:=Hd (X0.out.next hb)
     clear hb
     go_wp2_with fail
     go_ret
     exact ⟨by rw [HQ.out];rfl,X1.out.low⟩
   | false =>
     cases h2:(b.how == 2) with
     | true =>
       rw [h0,h1,h2] at HQ
       go_wp2_with fail
       refine (RW.out _ X0.out.low).mono ?_
       rintro e w2 ⟨rfl,hb⟩
       have X1:=Hd (X0.out.next hb)
       clear hb z0 z1 z2 v0 v1 v2 v3 v4 v5 y0 y1 y2 y3 y4 X0
       obtain ⟨⟨v0,v1,v2,v3,v4,v5⟩,_⟩:=six_cells X1.out.f
       obtain ⟨y0,y1,y2,y3,y4,_⟩:=gvc X1.out.b
       cases rw' with
       | false =>
         go_wp2_with fail
         go_ret
         exact ⟨by rw [HQ.out];rfl,X1.out.low⟩
       | true =>
         go_wp2_with fail
         refine (KY.out _ X1.out.low).mono ?_
         rintro e w3 ⟨rfl,hb⟩
         have X2:=Hd (X1.out.next hb)
         clear hb
         go_wp2_with fail
         go_ret
         exact ⟨by rw [HQ.out];rfl,X2.out.low⟩
     | false =>
       rw [h0,h1,h2] at HQ
       cases h3:(f.tl == 0) with
       | false =>
         rw [h3] at HQ
         go_wp2_with fail
         go_ret
         exact ⟨by rw [HQ.out];rfl,X0.out.low⟩
       | true =>
         rw [h3] at HQ
         go_wp2_with fail
         refine (LF.out _ X0.out.low).mono ?_
         rintro e w2 ⟨rfl,hb⟩
         have X1:=Hd (X0.out.next hb)
         clear hb z0 z1 z2 v0 v1 v2 v3 v4 v5 y0 y1 y2 y3 y4 X0
         obtain ⟨z0,z1,z2⟩:=three_cells X1.out.s
         obtain ⟨⟨v0,v1,v2,v3,v4,v5⟩,_⟩:=six_cells X1.out.f
         cases lf with
         | true =>
           go_wp2_with fail
           go_ret
           exact ⟨by rw [HQ.out];rfl,X1.out.low⟩
         | false =>
           go_wp2_with fail
           refine (RW.out _ X1.out.low).mono ?_
           rintro e w3 ⟨rfl,hb⟩
           have X2:=Hd (X1.out.next hb)
           clear hb
           go_wp2_with fail
           go_ret
           exact ⟨by rw [HQ.out];rfl,X2.out.low⟩
structure Bx4 (w:World) (gs gf gb gx:Nat) (s f b x:Obj) (W:World):Prop where
 low:Below w.heap.size w W
 s:W.heap[gs]? = some s
 f:W.heap[gf]? = some f
 b:W.heap[gb]? = some b
 x:W.heap[gx]? = some x
theorem Bx4.next {w W W':World} {gs gf gb gx:Nat} {s f b x:Obj} (h:Bx4 w gs gf gb gx s f b x W) (hb:Below W.heap.size W W'):Bx4 w gs gf gb gx s f b x W':=
 ⟨h.low.trans (hb.mono h.low.size),(hb.block _ (Array.getElem?_eq_some_iff.1 h.s).1).trans h.s,(hb.block _ (Array.getElem?_eq_some_iff.1 h.f).1).trans h.f,(hb.block _ (Array.getElem?_eq_some_iff.1 h.b).1).trans h.b,(hb.block _ (Array.getElem?_eq_some_iff.1 h.x).1).trans h.x⟩
theorem Bx4.start {w W:World} {gs gf gb:Nat} {s f b:Obj} (h:Bx3 w gs gf gb s f b W) (x:Obj):Bx4 w gs gf gb W.heap.size s f b x (W.alloc x):=
 have h2:=h.next (dbelow_new W x)
 ⟨h2.low,h2.s,h2.f,h2.b,heap_alloc_new W x⟩
abbrev S14 (gs gf gx:Nat) (c0 c1 c2 d0 d1 d2 d3 d4 d5 e0 e1 e2 e3 e4:Value) (w:World):Prop:=
 w.cell? ⟨gs,0,none⟩=some c0∧w.cell? ⟨gs,1,none⟩=some c1∧w.cell? ⟨gs,2,none⟩=some c2∧w.cell? ⟨gf,0,none⟩=some d0∧w.cell? ⟨gf,1,none⟩=some d1∧w.cell? ⟨gf,2,none⟩=some d2∧w.cell? ⟨gf,3,none⟩=some d3∧w.cell? ⟨gf,4,none⟩=some d4∧w.cell? ⟨gf,5,none⟩=some d5∧w.cell? ⟨gx,0,none⟩=some e0∧w.cell? ⟨gx,1,none⟩=some e1∧w.cell? ⟨gx,2,none⟩=some e2∧w.cell? ⟨gx,3,none⟩=some e3∧w.cell? ⟨gx,4,none⟩=some e4
theorem Bx4.s14 {w W:World} {gs gf gb gx:Nat} {b:Obj} {c0 c1 c2 d0 d1 d2 d3 d4 d5 e0 e1 e2 e3 e4:Value} (h:Bx4 w gs gf gb gx (.cells #[c0,c1,c2] 24) (.cells #[d0,d1,d2,d3,d4,d5] 46) b (.cells #[e0,e1,e2,e3,e4] 51) W):S14 gs gf gx c0 c1 c2 d0 d1 d2 d3 d4 d5 e0 e1 e2 e3 e4 W:=by
 obtain ⟨z0,z1,z2⟩:=three_cells h.s
 obtain ⟨⟨v0,v1,v2,v3,v4,v5⟩,_⟩:=six_cells h.f
 obtain ⟨y0,y1,y2,y3,y4,_⟩:=gvc h.x
 exact ⟨z0,z1,z2,v0,v1,v2,v3,v4,v5,y0,y1,y2,y3,y4⟩
theorem of_any (S:SchT) (typ:ByteArray) (f:FieldT) (c0 c1 c2 d0 d1 d2 d3 d4 d5:Value) (w:World) (B:Nat) (hB:B≤w.heap.size) (hz:SlimS S) (hS:TS w (fun b=>b < B) (encSch S) [c0,c1,c2]) (hF:TS w (fun b=>b < B) (encField f) [d0,d1,d2,d3,d4,d5]) :
   Calls Tryz.prog 25 #[.agg #[c0,c1,c2],.string typ,.agg #[d0,d1,d2,d3,d4,d5]] w (BindO (ofT S typ f) w):=by
 have FT:=Hd (fun (x:BindT) (wx:World) (h:Below w.heap.size w wx)=>bfits_any S f x c0 c1 c2 d0 d1 d2 d3 d4 d5 wx B (Nat.le_trans hB h.size) hz (TS.low (h.mono hB) hS) (TS.low (h.mono hB) hF))
 obtain ⟨Ap,kp,Ad,kd,e,_,_,hld,hRD⟩:=fld_cells hF
 simp only [List.cons.injEq,and_true] at e
 obtain ⟨rfl,rfl,rfl,rfl,rfl,rfl⟩:=e
 have SO:=Hd (fun (wx:World) (h:Below w.heap.size w wx)=>source_any f.dirs f.name Ad kd wx B (Nat.le_trans hB h.size) hld (RowT.below (h.mono hB) hRD))
 obtain ⟨A,k,e,_⟩:=sch_cells hS
 injection e with e0 e
 injection e with e1 e
 injection e with e2 e
 subst e0 e1 e2
 clear hB hz hS hF e hRD
 have CH:=Hd (fun (wx:World)=>changes_any S typ A k wx)
 have X0:=Hd (Bx3.start w (.cells #[.slice A S.defs.length k,.string S.query,.string S.mutation] 24) (.cells #[.string f.name,.slice Ap f.params.length kp,.string f.tn,.int .i64 f.tl,.int .i64 f.tm,.slice Ad f.dirs.length kd] 46) (.cells #[.int .i64 0,.string ⟨#[]⟩,.string ⟨#[]⟩,.string ⟨#[]⟩,.string ⟨#[]⟩] 51))
 have HQ:Hid (ofT S typ f=if ((sourceT f.dirs f.name).2 && (!(f.name.toList == tnB) && (fitsT S f (sourceT f.dirs f.name).1 && (((sourceT f.dirs f.name).1.how == 3) == changesB S typ))))=true then ((sourceT f.dirs f.name).1,true) else (noneB,false)):=Hd rfl
 obtain ⟨x,told,hx⟩:∃ x t,sourceT f.dirs f.name=(x,t):=⟨_,_,rfl⟩
 rw [hx] at SO HQ
 clear hx
 have FT:=Hd (FT.out x)
 generalize fitsT S f x=fb at FT HQ
 generalize changesB S typ=cb at CH HQ
 generalize ofT S typ f=Q at HQ ⊢
 unfold bindV at FT
 obtain ⟨gb,hgb⟩:∃ b,w.heap.size+1+1=b:=⟨_,rfl⟩
 obtain ⟨gf,hgf⟩:∃ b,w.heap.size+1=b:=⟨_,rfl⟩
 have HGB:Hid (w.heap.size≤gb):=Hd (by omega)
 rw [hgb,hgf] at X0
 rw [hgf] at hgb
 go_enter Tryz.func25,Tryz.ntmps25
 go_upto_region 1 with fail
 generalize ((w.alloc (.cells #[.slice A S.defs.length k,.string S.query,.string S.mutation] 24)).alloc (.cells #[.string f.name,.slice Ap f.params.length kp,.string f.tn,.int .i64 f.tl,.int .i64 f.tm,.slice Ad f.dirs.length kd] 46)).alloc (.cells #[.int .i64 0,.string ⟨#[]⟩,.string ⟨#[]⟩,.string ⟨#[]⟩,.string ⟨#[]⟩] 51)=w1 at X0 ⊢
 clear hgb hgf
 obtain ⟨⟨v0,v1,v2,v3,v4,v5⟩,_⟩:=six_cells X0.out.f
 go_wp2_with fail
 refine (SO.out _ X0.out.low).mono ?_
 rintro e w2 ⟨rfl,hb⟩
 have X1:=Hd (X0.out.next hb)
 clear hb X0 SO v0 v1 v2 v3 v4 v5
 unfold bindV
 go_upto_region 2 with fail
 have XR:=Hd (Bx4.start X1.out (.cells #[.int .i64 x.how,.string x.table,.string x.col,.string x.arg,.string x.cmd] 51))
 generalize w2.alloc (.cells #[.int .i64 x.how,.string x.table,.string x.col,.string x.arg,.string x.cmd] 51)=w3 at XR ⊢
 generalize w2.heap.size=gx at XR ⊢
 clear X1
 cases told with
 | false =>
   have XD:=Hd (XR.out.next (Below.drew (Below.refl _ _)))
   generalize hwd:w3.drew=wd at XD
   refine wp_region_held_drew (S:=S14 w.heap.size gf gx (.slice A S.defs.length k) (.string S.query) (.string S.mutation) (.string f.name) (.slice Ap f.params.length kp) (.string f.tn) (.int .i64 f.tl) (.int .i64 f.tm) (.slice Ad f.dirs.length kd) (.int .i64 x.how) (.string x.table) (.string x.col) (.string x.arg) (.string x.cmd)) (by kernel_rfl) (by rw [hwd];exact XD.out.s14) (fun hHeld=>?_)
   rw [hwd] at hHeld ⊢
   clear hwd XR
   refine zt 0 ?_;try simp only [Act.put,zgA,zgB,stT,stZ,stS]
   refine zt 1 ?_;try simp only [Act.put,zgA,zgB,zgC,stT,stZ,stS]
   refine zt 2 ?_;try simp only [Act.put,zgA,zgB,zgC,stT,stZ,stS]
   refine zu 3 ?_;try simp only [Act.put,zgA,zgB,zgC,stT,stZ,stS]
   refine zu 4 ?_;try simp only [Act.put,zgA,zgB,zgC,stT,stZ,stS]
   refine zu 5 ?_;try simp only [Act.put,zgA,zgB,zgC,stT,stZ,stS]
   refine zt 6 ?_;try simp only [Act.put,zgA,zgB,zgC,stT,stZ,stS]
   refine zt 7 ?_;try simp only [Act.put,zgA,zgB,zgC,stT,stZ,stS]
   refine zu 8 ?_;try simp only [Act.put,zgA,zgB,zgC,stT,stZ,stS]
   refine zu 9 ?_;try simp only [Act.put,zgA,zgB,zgC,stT,stZ,stS]
   refine zu 10 ?_;try simp only [Act.put,zgA,zgB,zgC,stT,stZ,stS]
   refine zu 11 ?_;try simp only [Act.put,zgA,zgB,zgC,stT,stZ,stS]
   refine zu 12 ?_;try simp only [Act.put,zgA,zgB,zgC,stT,stZ,stS]
   refine zt 13 ?_;try simp only [Act.put,zgA,zgB,zgC,stT,stZ,stS]
   refine zt 14 ?_;try simp only [Act.put,zgA,zgB,zgC,stT,stZ,stS]
   refine zu 15 ?_;try simp only [Act.put,zgA,zgB,zgC,stT,stZ,stS]
   refine zu 16 ?_;try simp only [Act.put,zgA,zgB,zgC,stT,stZ,stS]
   refine zu 17 ?_;try simp only [Act.put,zgA,zgB,zgC,stT,stZ,stS]
   refine zu 18 ?_;try simp only [Act.put,zgA,zgB,zgC,stT,stZ,stS]
   refine zu 19 ?_;try simp only [Act.put,zgA,zgB,zgC,stT,stZ,stS]
   refine zu 20 ?_;try simp only [Act.put,zgA,zgB,zgC,stT,stZ,stS]
   refine zu 21 ?_;try simp only [Act.put,zgA,zgB,zgC,stT,stZ,stS]
   refine zt 22 ?_;try simp only [Act.put,zgA,zgB,zgC,stT,stZ,stS]
   refine wpAnyH_done (by kernel_rfl) ?_ _
   clear hHeld
   obtain ⟨u0,u1,u2,u3,u4,f4⟩:=gvc XD.out.b
   have f0:=f4 0
   have f1:=f4 1
   have f2:=f4 2
   have f3:=f4 3
   have f5:=f4 4
   clear f4
   go_wp2_with fail
   refine ret_bind rfl rfl rfl (five_put XD.out.b) ?_
   rw [HQ.out]
   exact ⟨rfl,five_down XD.out.low HGB.out⟩
 | true =>
   cases hn:(f.name.toList == tnB) with
   | true =>
     rw [hn] at HQ
     unfold tnB at hn
     have XD:=Hd (XR.out.next (Below.drew (Below.refl _ _)))
     generalize hwd:w3.drew=wd at XD
     refine wp_region_held_drew (S:=S14 w.heap.size gf gx (.slice A S.defs.length k) (.string S.query) (.string S.mutation) (.string f.name) (.slice Ap f.params.length kp) (.string f.tn) (.int .i64 f.tl) (.int .i64 f.tm) (.slice Ad f.dirs.length kd) (.int .i64 x.how) (.string x.table) (.string x.col) (.string x.arg) (.string x.cmd)) (by kernel_rfl) (by rw [hwd];exact XD.out.s14) (fun hHeld=>?_)
     rw [hwd] at hHeld ⊢
     clear hwd XR
     refine zt 0 ?_;try simp only [Act.put,zgA,zgB,stT,stZ,stS]
     refine zt 1 ?_;try simp only [Act.put,zgA,zgB,zgC,stT,stZ,stS]
     refine zt 2 ?_;try simp only [Act.put,zgA,zgB,zgC,stT,stZ,stS]
     refine zt 3 ?_;try simp only [Act.put,zgA,zgB,zgC,stT,stZ,stS]
     refine zt 4 ?_;try simp only [Act.put,zgA,zgB,zgC,stT,stZ,stS]
     refine zt 5 ?_;try simp only [Act.put,zgA,zgB,zgC,stT,stZ,stS]
     refine zt 6 ?_;try simp only [Act.put,zgA,zgB,zgC,stT,stZ,stS]
     refine zt 7 ?_;try simp only [Act.put,zgA,zgB,zgC,stT,stZ,stS]
     refine zu 8 ?_;try simp only [Act.put,zgA,zgB,zgC,stT,stZ,stS]
     refine zu 9 ?_;try simp only [Act.put,zgA,zgB,zgC,stT,stZ,stS]
     refine zu 10 ?_;try simp only [Act.put,zgA,zgB,zgC,stT,stZ,stS]
     refine zu 11 ?_;try simp only [Act.put,zgA,zgB,zgC,stT,stZ,stS]
     refine zu 12 ?_;try simp only [Act.put,zgA,zgB,zgC,stT,stZ,stS]
     refine zt 13 ?_;try simp only [Act.put,zgA,zgB,zgC,stT,stZ,stS]
     refine zt 14 ?_;try simp only [Act.put,zgA,zgB,zgC,stT,stZ,stS]
     refine zu 15 ?_;try simp only [Act.put,zgA,zgB,zgC,stT,stZ,stS]
     refine zu 16 ?_;try simp only [Act.put,zgA,zgB,zgC,stT,stZ,stS]
     refine zu 17 ?_;try simp only [Act.put,zgA,zgB,zgC,stT,stZ,stS]
     refine zu 18 ?_;try simp only [Act.put,zgA,zgB,zgC,stT,stZ,stS]
     refine zu 19 ?_;try simp only [Act.put,zgA,zgB,zgC,stT,stZ,stS]
     refine zu 20 ?_;try simp only [Act.put,zgA,zgB,zgC,stT,stZ,stS]
     refine zu 21 ?_;try simp only [Act.put,zgA,zgB,zgC,stT,stZ,stS]
     refine zt 22 ?_;try simp only [Act.put,zgA,zgB,zgC,stT,stZ,stS]
     refine wpAnyH_done (by kernel_rfl) ?_ _
     clear hHeld
     obtain ⟨u0,u1,u2,u3,u4,f4⟩:=gvc XD.out.b
     have f0:=f4 0
     have f1:=f4 1
     have f2:=f4 2
     have f3:=f4 3
     have f5:=f4 4
     clear f4
     go_wp2_with fail
     refine ret_bind rfl rfl rfl (five_put XD.out.b) ?_
     rw [HQ.out]
     exact ⟨rfl,five_down XD.out.low HGB.out⟩
   | false =>
     rw [hn] at HQ
     unfold tnB at hn
     cases fb with
     | false =>
       have XD:=Hd (XR.out.next (Below.drew (Below.refl _ _)))
       generalize hwd:w3.drew=wd at XD
       refine wp_region_held_drew (S:=S14 w.heap.size gf gx (.slice A S.defs.length k) (.string S.query) (.string S.mutation) (.string f.name) (.slice Ap f.params.length kp) (.string f.tn) (.int .i64 f.tl) (.int .i64 f.tm) (.slice Ad f.dirs.length kd) (.int .i64 x.how) (.string x.table) (.string x.col) (.string x.arg) (.string x.cmd)) (by kernel_rfl) (by rw [hwd];exact XD.out.s14) (fun hHeld=>?_)
       rw [hwd] at hHeld ⊢
       clear hwd XR
       refine zt 0 ?_;try simp only [Act.put,zgA,zgB,stT,stZ,stS]
       refine zt 1 ?_;try simp only [Act.put,zgA,zgB,zgC,stT,stZ,stS]
       refine zt 2 ?_;try simp only [Act.put,zgA,zgB,zgC,stT,stZ,stS]
       refine zt 3 ?_;try simp only [Act.put,zgA,zgB,zgC,stT,stZ,stS]
       refine zt 4 ?_;try simp only [Act.put,zgA,zgB,zgC,stT,stZ,stS]
       refine zt 5 ?_;try simp only [Act.put,zgA,zgB,zgC,stT,stZ,stS]
       refine zt 6 ?_;try simp only [Act.put,zgA,zgB,zgC,stT,stZ,stS]
       refine zt 7 ?_;try simp only [Act.put,zgA,zgB,zgC,stT,stZ,stS]
       refine zt 8 ?_;try simp only [Act.put,zgA,zgB,zgC,stT,stZ,stS]
       refine zt 9 ?_;try simp only [Act.put,zgA,zgB,zgC,stT,stZ,stS]
       refine zt 10 ?_;try simp only [Act.put,zgA,zgB,zgC,stT,stZ,stS]
       refine wpAnyH_ready (rs:=[11]) (by kernel_rfl) (by simp) ?_
       refine AllReadyH.cons (o:=_) rfl (fun K hK=>?_) AllReadyH.nil
       go_simp
       refine (FT.out _ XD.out.low).mono ?_
       rintro e w4 ⟨rfl,hb⟩
       have X5:=Hd (XD.out.next hb)
       clear hb XD
       go_wp2_with fail
       refine hK.out _ _ (X5.out.s14) (fun hHeld=>?_)
       clear hK K
       try simp only [Act.put,zgA,zgB,zgC,stT,stZ,stS]
       refine zt 12 ?_;try simp only [Act.put,zgA,zgB,zgC,stT,stZ,stS]
       refine zt 13 ?_;try simp only [Act.put,zgA,zgB,zgC,stT,stZ,stS]
       refine zt 14 ?_;try simp only [Act.put,zgA,zgB,zgC,stT,stZ,stS]
       refine zu 15 ?_;try simp only [Act.put,zgA,zgB,zgC,stT,stZ,stS]
       refine zu 16 ?_;try simp only [Act.put,zgA,zgB,zgC,stT,stZ,stS]
       refine zu 17 ?_;try simp only [Act.put,zgA,zgB,zgC,stT,stZ,stS]
       refine zu 18 ?_;try simp only [Act.put,zgA,zgB,zgC,stT,stZ,stS]
       refine zu 19 ?_;try simp only [Act.put,zgA,zgB,zgC,stT,stZ,stS]
       refine zu 20 ?_;try simp only [Act.put,zgA,zgB,zgC,stT,stZ,stS]
       refine zu 21 ?_;try simp only [Act.put,zgA,zgB,zgC,stT,stZ,stS]
       refine zt 22 ?_;try simp only [Act.put,zgA,zgB,zgC,stT,stZ,stS]
       refine wpAnyH_done (by kernel_rfl) ?_ _
       clear hHeld
       obtain ⟨u0,u1,u2,u3,u4,f4⟩:=gvc X5.out.b
       have f0:=f4 0
       have f1:=f4 1
       have f2:=f4 2
       have f3:=f4 3
       have f5:=f4 4
       clear f4
       go_wp2_with fail
       refine ret_bind rfl rfl rfl (five_put X5.out.b) ?_
       rw [HQ.out]
       exact ⟨rfl,five_down X5.out.low HGB.out⟩
     | true =>
       cases hh:((x.how == 3) == cb) with
       | false =>
         rw [hh] at HQ
         have XD:=Hd (XR.out.next (Below.drew (Below.refl _ _)))
         generalize hwd:w3.drew=wd at XD
         refine wp_region_held_drew (S:=S14 w.heap.size gf gx (.slice A S.defs.length k) (.string S.query) (.string S.mutation) (.string f.name) (.slice Ap f.params.length kp) (.string f.tn) (.int .i64 f.tl) (.int .i64 f.tm) (.slice Ad f.dirs.length kd) (.int .i64 x.how) (.string x.table) (.string x.col) (.string x.arg) (.string x.cmd)) (by kernel_rfl) (by rw [hwd];exact XD.out.s14) (fun hHeld=>?_)
         rw [hwd] at hHeld ⊢
         clear hwd XR
         refine zt 0 ?_;try simp only [Act.put,zgA,zgB,stT,stZ,stS]
         refine zt 1 ?_;try simp only [Act.put,zgA,zgB,zgC,stT,stZ,stS]
         refine zt 2 ?_;try simp only [Act.put,zgA,zgB,zgC,stT,stZ,stS]
         refine zt 3 ?_;try simp only [Act.put,zgA,zgB,zgC,stT,stZ,stS]
         refine zt 4 ?_;try simp only [Act.put,zgA,zgB,zgC,stT,stZ,stS]
         refine zt 5 ?_;try simp only [Act.put,zgA,zgB,zgC,stT,stZ,stS]
         refine zt 6 ?_;try simp only [Act.put,zgA,zgB,zgC,stT,stZ,stS]
         refine zt 7 ?_;try simp only [Act.put,zgA,zgB,zgC,stT,stZ,stS]
         refine zt 8 ?_;try simp only [Act.put,zgA,zgB,zgC,stT,stZ,stS]
         refine zt 9 ?_;try simp only [Act.put,zgA,zgB,zgC,stT,stZ,stS]
         refine zt 10 ?_;try simp only [Act.put,zgA,zgB,zgC,stT,stZ,stS]
         refine wpAnyH_ready (rs:=[11]) (by kernel_rfl) (by simp) ?_
         refine AllReadyH.cons (o:=_) rfl (fun K hK=>?_) AllReadyH.nil
         go_simp
         refine (FT.out _ XD.out.low).mono ?_
         rintro e w4 ⟨rfl,hb⟩
         have X5:=Hd (XD.out.next hb)
         clear hb XD
         go_wp2_with fail
         refine hK.out _ _ (X5.out.s14) (fun hHeld=>?_)
         clear hK K
         try simp only [Act.put,zgA,zgB,zgC,stT,stZ,stS]
         refine zt 12 ?_;try simp only [Act.put,zgA,zgB,zgC,stT,stZ,stS]
         refine zt 13 ?_;try simp only [Act.put,zgA,zgB,zgC,stT,stZ,stS]
         refine zt 14 ?_;try simp only [Act.put,zgA,zgB,zgC,stT,stZ,stS]
         refine zt 15 ?_;try simp only [Act.put,zgA,zgB,zgC,stT,stZ,stS]
         refine zt 16 ?_;try simp only [Act.put,zgA,zgB,zgC,stT,stZ,stS]
         refine zt 17 ?_;try simp only [Act.put,zgA,zgB,zgC,stT,stZ,stS]
         refine zt 18 ?_;try simp only [Act.put,zgA,zgB,zgC,stT,stZ,stS]
         refine zt 19 ?_;try simp only [Act.put,zgA,zgB,zgC,stT,stZ,stS]
         refine wpAnyH_ready (rs:=[20]) (by kernel_rfl) (by simp) ?_
         refine AllReadyH.cons (o:=_) rfl (fun K hK=>?_) AllReadyH.nil
         go_simp
         refine (CH.out _).mono ?_
         rintro e w4 ⟨rfl,hb⟩
         have X6:=Hd (X5.out.next hb)
         clear hb X5
         go_wp2_with fail
         refine hK.out _ _ (X6.out.s14) (fun hHeld=>?_)
         clear hK K
         try simp only [Act.put,zgA,zgB,zgC,stT,stZ,stS]
         refine zt 21 ?_;try simp only [Act.put,zgA,zgB,zgC,stT,stZ,stS]
         refine zt 22 ?_;try simp only [Act.put,zgA,zgB,zgC,stT,stZ,stS]
         refine wpAnyH_done (by kernel_rfl) ?_ _
         clear hHeld
         obtain ⟨u0,u1,u2,u3,u4,f4⟩:=gvc X6.out.b
         have f0:=f4 0
         have f1:=f4 1
         have f2:=f4 2
         have f3:=f4 3
         have f5:=f4 4
         clear f4
         go_wp2_with fail
         refine ret_bind rfl rfl rfl (five_put X6.out.b) ?_
         rw [HQ.out]
         exact ⟨rfl,five_down X6.out.low HGB.out⟩
       | true =>
         rw [hh] at HQ
         have XD:=Hd (XR.out.next (Below.drew (Below.refl _ _)))
         generalize hwd:w3.drew=wd at XD
         refine wp_region_held_drew (S:=S14 w.heap.size gf gx (.slice A S.defs.length k) (.string S.query) (.string S.mutation) (.string f.name) (.slice Ap f.params.length kp) (.string f.tn) (.int .i64 f.tl) (.int .i64 f.tm) (.slice Ad f.dirs.length kd) (.int .i64 x.how) (.string x.table) (.string x.col) (.string x.arg) (.string x.cmd)) (by kernel_rfl) (by rw [hwd];exact XD.out.s14) (fun hHeld=>?_)
         rw [hwd] at hHeld ⊢
         clear hwd XR
         refine zt 0 ?_;try simp only [Act.put,zgA,zgB,stT,stZ,stS]
         refine zt 1 ?_;try simp only [Act.put,zgA,zgB,zgC,stT,stZ,stS]
         refine zt 2 ?_;try simp only [Act.put,zgA,zgB,zgC,stT,stZ,stS]
         refine zt 3 ?_;try simp only [Act.put,zgA,zgB,zgC,stT,stZ,stS]
         refine zt 4 ?_;try simp only [Act.put,zgA,zgB,zgC,stT,stZ,stS]
         refine zt 5 ?_;try simp only [Act.put,zgA,zgB,zgC,stT,stZ,stS]
         refine zt 6 ?_;try simp only [Act.put,zgA,zgB,zgC,stT,stZ,stS]
         refine zt 7 ?_;try simp only [Act.put,zgA,zgB,zgC,stT,stZ,stS]
         refine zt 8 ?_;try simp only [Act.put,zgA,zgB,zgC,stT,stZ,stS]
         refine zt 9 ?_;try simp only [Act.put,zgA,zgB,zgC,stT,stZ,stS]
         refine zt 10 ?_;try simp only [Act.put,zgA,zgB,zgC,stT,stZ,stS]
         refine wpAnyH_ready (rs:=[11]) (by kernel_rfl) (by simp) ?_
         refine AllReadyH.cons (o:=_) rfl (fun K hK=>?_) AllReadyH.nil
         go_simp
         refine (FT.out _ XD.out.low).mono ?_
         rintro e w4 ⟨rfl,hb⟩
         have X5:=Hd (XD.out.next hb)
         clear hb XD
         go_wp2_with fail
         refine hK.out _ _ (X5.out.s14) (fun hHeld=>?_)
         clear hK K
         try simp only [Act.put,zgA,zgB,zgC,stT,stZ,stS]
         refine zt 12 ?_;try simp only [Act.put,zgA,zgB,zgC,stT,stZ,stS]
         refine zt 13 ?_;try simp only [Act.put,zgA,zgB,zgC,stT,stZ,stS]
         refine zt 14 ?_;try simp only [Act.put,zgA,zgB,zgC,stT,stZ,stS]
         refine zt 15 ?_;try simp only [Act.put,zgA,zgB,zgC,stT,stZ,stS]
         refine zt 16 ?_;try simp only [Act.put,zgA,zgB,zgC,stT,stZ,stS]
         refine zt 17 ?_;try simp only [Act.put,zgA,zgB,zgC,stT,stZ,stS]
         refine zt 18 ?_;try simp only [Act.put,zgA,zgB,zgC,stT,stZ,stS]
         refine zt 19 ?_;try simp only [Act.put,zgA,zgB,zgC,stT,stZ,stS]
         refine wpAnyH_ready (rs:=[20]) (by kernel_rfl) (by simp) ?_
         refine AllReadyH.cons (o:=_) rfl (fun K hK=>?_) AllReadyH.nil
         go_simp
         refine (CH.out _).mono ?_
         rintro e w4 ⟨rfl,hb⟩
         have X6:=Hd (X5.out.next hb)
         clear hb X5
         go_wp2_with fail
         refine hK.out _ _ (X6.out.s14) (fun hHeld=>?_)
         clear hK K
         try simp only [Act.put,zgA,zgB,zgC,stT,stZ,stS]
         refine zt 21 ?_;try simp only [Act.put,zgA,zgB,zgC,stT,stZ,stS]
         refine zt 22 ?_;try simp only [Act.put,zgA,zgB,zgC,stT,stZ,stS]
         refine wpAnyH_done (by kernel_rfl) ?_ _
         clear hHeld
         obtain ⟨u0,u1,u2,u3,u4,f4⟩:=gvc X6.out.b
         have f0:=f4 0
         have f1:=f4 1
         have f2:=f4 2
         have f3:=f4 3
         have f5:=f4 4
         clear f4
         obtain ⟨y0,y1,y2,y3,y4,_⟩:=gvc X6.out.x
         go_wp2_with fail
         refine ret_bind rfl rfl rfl (five_put X6.out.b) ?_
         rw [HQ.out]
         exact ⟨rfl,five_down X6.out.low HGB.out⟩
end Go.Proofs.YtaekdfcpbepepaaGreatDoor
