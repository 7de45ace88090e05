/- literal's within. (gen_fits.py wrote it.) -/
import Derived.Test.YtaekdfcpbepepaaGreatDoorQbz
import Derived.Test.YtaekdfcpbepepaaGreatDoorQb8
set_option maxRecDepth 100000
set_option maxHeartbeats 8000000
namespace Go.Proofs.YtaekdfcpbepepaaGreatDoor
open List renaming getElem_toArray → zgA, getElem_cons_zero → zgB, getElem_cons_succ → zgC
open Go.RowKit
structure WB (w:World) (M:Nat) (w3:World) (o0 o1:Obj) (W:World):Prop where
 b0:W.heap[w.heap.size]? = some o0
 b1:W.heap[w.heap.size+1]? = some o1
 mo:MoX M w3 W
theorem WB.next {w w3 W W':World} {M:Nat} {o0 o1:Obj} (h:WB w M w3 o0 o1 W) (h0:w.heap.size ≠ M) (h1:w.heap.size+1 ≠ M) (_h:True∨M=M) (hm:MoX M W W'):WB w M w3 o0 o1 W':=
 ⟨(hm.block _ (Array.getElem?_eq_some_iff.1 h.b0).1 h0).trans h.b0,(hm.block _ (Array.getElem?_eq_some_iff.1 h.b1).1 h1).trans h.b1,h.mo.trans hm⟩
theorem wb_written {w w3 W:World} {M:Nat} {c0 c1 c2 c3 d0 d1 d2 d3 d4 d5 d6 d7 d8:Value} {t t':TypeId} (h:WB w M w3 (.cells #[c0,c1,c2,c3] t) (.cells #[d0,d1,d2,d3,d4,d5,d6,d7,d8] t') W) :
  W.cell? ⟨w.heap.size,0,none⟩=some c0∧W.cell? ⟨w.heap.size,1,none⟩=some c1∧W.cell? ⟨w.heap.size,2,none⟩=some c2∧W.cell? ⟨w.heap.size,3,none⟩=some c3∧W.cell? ⟨w.heap.size+1,0,none⟩=some d0∧W.cell? ⟨w.heap.size+1,8,none⟩=some d8∧WB w M w3 (.cells #[c0,c1,c2,c3] t) (.cells #[d0,d1,d2,d3,d4,d5,d6,d7,d8] t') W:=by
 obtain ⟨x0,x1,x2,x3⟩:=four_cells h.b0
 obtain ⟨⟨y0,y1,y2,y3,y4,y5,y6,y7,y8⟩,_⟩:=nine_cells h.b1
 exact ⟨x0,x1,x2,x3,y0,y8,h⟩
theorem wb_last {p1 p2 p3 p4 p5 p6 q:Prop} (h:p1∧p2∧p3∧p4∧p5∧p6∧q):q:=h.2.2.2.2.2.2
theorem mok_cut {D:List DefnT} {X:Nat→Prop} {KS:List ByteArray} {M:Nat} {W W':World} (h:MOK D X KS M W) (hb:Below W.heap.size W W'):MOK D (fun b=>X b∨W.heap.size≤b) KS M W':=by
 have hM:=h.lt
 obtain ⟨ents,m,h1,h2,h3,h4,h5⟩:=h
 obtain ⟨es,clock,g1,g2⟩:=h1
 refine ⟨ents,m,⟨es,clock,(hb.block M hM).trans g1,g2⟩,h2,h3,h4,fun s=>(h5 s).imp_right ?_⟩
 rintro ⟨e1,c0,c1,c2,c3,c4,c5,e2,e3⟩
 exact ⟨e1,c0,c1,c2,c3,c4,c5,e2,TS.keep (fun b hx=>⟨⟨Nat.lt_of_lt_of_le hx.1 hb.size,fun h=>h.elim hx.2 (by omega)⟩,hb.block b hx.1⟩) _ _ e3⟩
theorem field_par (w:World) (k:Int) (nm:ByteArray) (A1 A2 A3 A4:Option Addr) (n1 n2 n3 n4 k1 k2 k3 k4:Nat):(Instr.field 37 (.agg #[.int .i64 k,.string nm,.slice A1 n1 k1,.slice A2 n2 k2,.slice A3 n3 k3,.slice A4 n4 k4]) 5).run Tryz.prog w=.ok (.slice A4 n4 k4) w:=by
 rfl
theorem members_fit {n n':Nat} {f:FuncId} {A B:Option Addr} {a b k:Nat} {w:World} {R:Ending→World→Prop} (hn:n'=n) (h:Calls Tryz.prog f #[.slice A a k,.slice B n' b] w R):Calls Tryz.prog f #[.slice A a k,.slice B n b] w R:=hn ▸ h
theorem one_pls {w:World} {B base:Nat} {n:ByteArray} {l m:Int} {hs:Bool} {v:VT} {A3 A4:Option Addr} {k3 k4:Nat} (hn:n.size≤9223372036854775807) (hV:TS (w.alloc (.cells #[.string n,.int .i64 l,.int .i64 m,.bool hs,.int .i64 v.kd,.int .i64 v.nn,.string v.ss,.slice A3 v.ls.len k3,.slice A4 v.ms.len k4] 163)) (fun b=>b < B) (encV v) [.int .i64 v.kd,.int .i64 v.nn,.string v.ss,.slice A3 v.ls.len k3,.slice A4 v.ms.len k4]) (hb:base≤w.heap.size) :
  PlsAt (w.alloc (.cells #[.string n,.int .i64 l,.int .i64 m,.bool hs,.int .i64 v.kd,.int .i64 v.nn,.string v.ss,.slice A3 v.ls.len k3,.slice A4 v.ms.len k4] 163)) B base [⟨n,l,m,hs,v⟩] (some ⟨w.heap.size,0,none⟩):=fun j x hx=>by
 obtain ⟨rfl,rfl⟩:j=0∧x=⟨n,l,m,hs,v⟩:=by
  cases j with
  | zero=>exact ⟨rfl,by simpa using hx.symm⟩
  | succ j=>simp at hx
 refine ⟨w.heap.size,0,_,rfl,hb,by simp,pl_ts (p:=⟨n,l,m,hs,v⟩) hn hV,fun i u hu=>?_⟩
 have:=nine_news w _ _ _ _ _ _ _ _ _ 163 rfl i u hu
 rw [add_at] at this
 simpa using this
def PlsC (l:List PlT) (B:Nat) (D:List DefnT) (X:Nat→Prop) (KS:List ByteArray) (M:Nat) (w:World) (e:Ending) (w':World):Prop:=∃ A c K,e=.returned (.slice A l.length c)∧l.length≤c∧(w.heap.size≤K∧K≤w'.heap.size)∧PlsAt w' B K l A∧MoX M w w'∧MOK D (fun b=>X b∨K≤b) KS M w'
theorem within_c (S:SchT) (n:ByteArray) (l m:Int) (hs:Bool) (v:VT) (c0 c1 c2:Value) (A3 A4:Option Addr) (k3 k4:Nat) (w:World) (B M:Nat) (X:Nat→Prop) (KS:List ByteArray) (hB:B≤M) (hX:∀ b,X b→b < w.heap.size) (hXM:X M) (hXB:∀ b,b < B→¬ X b) (hK:n ∈ KS) (hKS:KS.length≤maxLen) (hn:n.size≤maxLen) (hz:SlimS S) (hvz:v.ms.len*120≤140737488355328) (hvl:v.ls.len*80≤140737488355328)
  (hS:TS w (fun b=>b < B) (encSch S) [c0,c1,c2]) (hV:TS w (fun b=>b < B) (encV v) [.int .i64 v.kd,.int .i64 v.nn,.string v.ss,.slice A3 v.ls.len k3,.slice A4 v.ms.len k4]) (hO:MOK S.defs X KS M w) :
  Calls Tryz.prog 179 #[.agg #[c0,c1,c2,.map (some M)],.agg #[.string n,.int .i64 l,.int .i64 m,.bool hs,.int .i64 v.kd,.int .i64 v.nn,.string v.ss,.slice A3 v.ls.len k3,.slice A4 v.ms.len k4]] w (PlsC (withinL S.defs ⟨n,l,m,hs,v⟩) B S.defs X KS M w):=by
 have hMl:=hO.lt
 have hBw:B≤w.heap.size:=by omega
 have hn':n.size≤9223372036854775807:=by unfold maxLen at hn;omega
 have F:=Hd (fun (wx:World) (hb:Below w.heap.size w wx)=>cfind_any S n c0 c1 c2 wx B M X KS hB (fun b h=>Nat.lt_of_lt_of_le (hX b h) hb.size) hXM hXB hK hKS hn hz (TS.low (hb.mono hBw) hS) (hO.low hb))
 have IT:=Hd (fun (wx:World)=>item_any n l m wx hn')
 rw [itemV_eq] at IT
 obtain ⟨A,k,e,_⟩:=sch_cells hS
 injection e with e0 e
 injection e with e1 e
 injection e with e2 e
 subst e0 e1 e2
 obtain ⟨E3,j3,E4,j4,e,hss,⟨hll,hL⟩,hml,hM⟩:=encv_cells hV
 simp only [List.cons.injEq,Value.slice.injEq,and_true,true_and] at e
 obtain ⟨⟨rfl,rfl⟩,rfl,rfl⟩:=e
 have EL:=Hd (fun (wx:World) (hb:Below w.heap.size w wx)=>elements_any v.ls.list A3 k3 n (l - 1) (m / 2) wx B (Nat.le_trans hBw hb.size) (by rw [VL.list_len];exact hvl) hn' (by rw [← encL_list];exact RowT.below (hb.mono hBw) hL))
 rw [VL.list_len] at EL
 have HM:=Hd hM
 have HV:=Hd hV
 have HVZ:=Hd hvz
 have HNL:=Hd hn'
 have HO:=Hd hO
 have N0:=Hd (NB.start w (.cells #[.slice A S.defs.length k,.string S.query,.string S.mutation,.map (some M)] 157) (.cells #[.string n,.int .i64 l,.int .i64 m,.bool hs,.int .i64 v.kd,.int .i64 v.nn,.string v.ss,.slice A3 v.ls.len k3,.slice A4 v.ms.len k4] 163))
 obtain ⟨r,hr⟩:∃ r,withinL S.defs ⟨n,l,m,hs,v⟩=r:=⟨_,rfl⟩
 rw [hr]
 have he:=hr.symm
 unfold withinL at he
 dsimp only at he
 have HE:=Hd he
 clear he hr hS hz hV hO hL hll hM hX hXM hXB hK hKS hn hn' hvz hvl
 obtain ⟨bi,gi⟩:∃ b,itemB n l m=b:=⟨_,rfl⟩
 obtain ⟨b8,g8⟩:∃ b,(v.kd == 8)=b:=⟨_,rfl⟩
 obtain ⟨b0,g0⟩:∃ b,(v.kd == 0)=b:=⟨_,rfl⟩
 obtain ⟨b6,g6⟩:∃ b,(v.kd == 6)=b:=⟨_,rfl⟩
 obtain ⟨b7,g7⟩:∃ b,(v.kd == 7)=b:=⟨_,rfl⟩
 have G8:(v.kd=8)=(b8=true):=by rw [← g8];simp
 have G0:(v.kd=0)=(b0=true):=by rw [← g0];simp
 have G6:(v.kd=6)=(b6=true):=by rw [← g6];simp
 have G7:(v.kd=7)=(b7=true):=by rw [← g7];simp
 simp only [G8,G0,G6,G7] at HE
 rw [gi] at IT
 rw [gi] at HE
 clear gi G8 G0 G6 G7
 cases bi
 case false =>
  rw [if_neg (by simp)] at IT
  unfold noT at IT
  go_enter Tryz.func179,Tryz.ntmps179
  go_upto_region 1 with fail
  generalize (w.alloc (.cells #[.slice A S.defs.length k,.string S.query,.string S.mutation,.map (some M)] 157)).alloc (.cells #[.string n,.int .i64 l,.int .i64 m,.bool hs,.int .i64 v.kd,.int .i64 v.nn,.string v.ss,.slice A3 v.ls.len k3,.slice A4 v.ms.len k4] 163)=w1 at N0 ⊢
  obtain ⟨⟨y0,y1,y2,y3,y4,y5,y6,y7,y8⟩,_⟩:=nine_cells N0.out.b1
  go_wp2_with fail
  refine (IT.out _).mono ?_
  rintro e w2 ⟨rfl,hb2⟩
  have N2:=Hd (N0.out.next hb2)
  clear hb2 y0 y1 y2 y3 y4 y5 y6 y7 y8 N0
  go_upto_region 2 with fail
  have N3:=Hd (N2.out.next (dbelow_new w2 (.cells #[.string ⟨#[]⟩,.int .i64 0,.int .i64 0] 43)))
  have I3:=heap_alloc_new w2 (.cells #[.string ⟨#[]⟩,.int .i64 0,.int .i64 0] 43)
  generalize w2.alloc (.cells #[.string ⟨#[]⟩,.int .i64 0,.int .i64 0] 43)=w3 at N3 I3 ⊢
  generalize w2.heap.size=g2 at I3 ⊢
  clear N2
  obtain ⟨⟨y0,y1,y2,y3,y4,y5,y6,y7,y8⟩,_⟩:=nine_cells N3.out.b1
  obtain ⟨x0,x1,x2,x3⟩:=four_cells N3.out.b0
  obtain ⟨i0,i1,i2⟩:=three_cells I3
  cases b8
  case true =>
   rw [if_pos (by simp)] at HE
   go_wp2_with fail
   go_ret
   rw [HE.out]
   exact ⟨none,0,w.heap.size,rfl,Nat.le_refl _,⟨Nat.le_refl _,N3.out.low.size⟩,fun j x hx=>by simp at hx,MoX.of_below N3.out.low,mok_cut HO.out N3.out.low⟩
  cases b0
  case true =>
   rw [if_pos (by simp)] at HE
   go_wp2_with fail
   go_ret
   rw [HE.out]
   exact ⟨none,0,w.heap.size,rfl,Nat.le_refl _,⟨Nat.le_refl _,N3.out.low.size⟩,fun j x hx=>by simp at hx,MoX.of_below N3.out.low,mok_cut HO.out N3.out.low⟩
  rw [if_neg (by simp)] at HE
  rw [if_neg (by simp)] at HE
  cases b7
  case false =>
   rw [if_neg (by simp)] at HE
   go_wp2_with fail
   go_ret
   rw [HE.out]
   exact ⟨none,0,w.heap.size,rfl,Nat.le_refl _,⟨Nat.le_refl _,N3.out.low.size⟩,fun j x hx=>by simp at hx,MoX.of_below N3.out.low,mok_cut HO.out N3.out.low⟩
  case true =>
   rw [if_pos (by simp)] at HE
   clear i0 i1 i2 I3 IT EL
   have FP5:=fun (w:World) (nm:ByteArray) (k:Int) (A1 A2 A3 A4:Option Addr) (n1 n2 n3 n4 k1 k2 k3 k4:Nat)=>field_par w k nm A1 A2 A3 A4 n1 n2 n3 n4 k1 k2 k3 k4
   go_upto_region 9 with fail
   clear x0 x1 x2 x3 y0 y1 y2 y3 y4 y5 y6 y7 y8
   have hw3:=N3.out.low.size
   have hl0:=(Array.getElem?_eq_some_iff.1 N3.out.b0).1
   have hl1:=(Array.getElem?_eq_some_iff.1 N3.out.b1).1
   refine wp_region_held_drew (S:=(fun w'=>w'.cell? ⟨w.heap.size,0,none⟩=some (Value.slice A S.defs.length k)∧w'.cell? ⟨w.heap.size,1,none⟩=some (Value.string S.query)∧w'.cell? ⟨w.heap.size,2,none⟩=some (Value.string S.mutation)∧w'.cell? ⟨w.heap.size,3,none⟩=some (Value.map (some M))∧w'.cell? ⟨w.heap.size+1,0,none⟩=some (Value.string n)∧w'.cell? ⟨w.heap.size+1,8,none⟩=some (Value.slice A4 v.ms.len k4)∧WB w M w3 (.cells #[.slice A S.defs.length k,.string S.query,.string S.mutation,.map (some M)] 157) (.cells #[.string n,.int .i64 l,.int .i64 m,.bool hs,.int .i64 v.kd,.int .i64 v.nn,.string v.ss,.slice A3 v.ls.len k3,.slice A4 v.ms.len k4] 163) w')) (by kernel_rfl) (wb_written ⟨N3.out.b0,N3.out.b1,(MoX.of_below (Below.drew (Below.refl _ _)))⟩) (fun hHeld=>?_)
   refine ztk 0 (v:=?_) ?_ (by assumption) ?_
   rotate_left
   · (intro w hSw;(try dsimp only at hSw);go_simp;try with_reducible rfl)
   try simp only [Act.put,zgA,zgB,stT,stZ,stS]
   refine ztk 1 (v:=?_) ?_ (by assumption) ?_
   rotate_left
   · (intro w hSw;(try dsimp only at hSw);go_simp;try with_reducible rfl)
   try simp only [Act.put,zgA,zgB,zgC,stT,stZ,stS]
   refine ztk 2 (v:=?_) ?_ (by assumption) ?_
   rotate_left
   · (intro w hSw;(try dsimp only at hSw);go_simp;try with_reducible rfl)
   try simp only [Act.put,zgA,zgB,zgC,stT,stZ,stS]
   refine ztk 3 (v:=?_) ?_ (by assumption) ?_
   rotate_left
   · (intro w hSw;(try dsimp only at hSw);go_simp;try with_reducible rfl)
   try simp only [Act.put,zgA,zgB,zgC,stT,stZ,stS]
   refine ztk 6 (v:=?_) ?_ (by assumption) ?_
   rotate_left
   · (intro w hSw;(try dsimp only at hSw);go_simp;try with_reducible rfl)
   try simp only [Act.put,zgA,zgB,zgC,stT,stZ,stS]
   refine ztk 7 (v:=?_) ?_ (by assumption) ?_
   rotate_left
   · (intro w hSw;(try dsimp only at hSw);go_simp;try with_reducible rfl)
   try simp only [Act.put,zgA,zgB,zgC,stT,stZ,stS]
   refine ztk 8 (v:=?_) ?_ (by assumption) ?_
   rotate_left
   · (intro w hSw;(try dsimp only at hSw);go_simp;try with_reducible rfl)
   try simp only [Act.put,zgA,zgB,zgC,stT,stZ,stS]
   refine wpAnyH_ready (rs:=[4]) (by kernel_rfl) (by simp) ?_
   refine AllReadyH.cons (o:=_) rfl (fun K hK=>?_) AllReadyH.nil
   go_simp
   refine (F.out _ (N3.out.low.trans ((Below.drew (Below.refl _ _)).mono hw3))).mono ?_
   rintro e w5 ⟨d0,d1,d2,d3,d4,d5,rfl,hT,hmo,hok⟩
   obtain ⟨Df,q0,Dx,q1,Dp,q2,Dm,q3,e,_,_,_,_,lm,hm⟩:=defn_cells hT
   simp only [List.cons.injEq,and_true] at e
   obtain ⟨rfl,rfl,rfl,rfl,rfl,rfl⟩:=e
   have HMM:=Hd hm
   have HLM:=Hd lm
   have M5d:=Hd hmo
   have M5:=Hd ((MoX.of_below (Below.drew (Below.refl w3.heap.size w3))).trans hmo)
   have O5:=Hd hok
   clear hT hm lm hmo hok
   go_wp2_with fail
   refine hK.out _ _ (wb_written ((wb_last hHeld).next (by omega) (by omega) (.inl trivial) M5d.out)) (fun hHeld=>?_)
   clear hK K
   try simp only [Act.put,zgA,zgB,zgC,stT,stZ,stS]
   refine ztk 5 (v:=?_) ?_ (by assumption) ?_
   rotate_left
   · (intro w hSw;(try dsimp only at hSw);go_simp;try with_reducible rfl)
   try simp only [Act.put,zgA,zgB,zgC,stT,stZ,stS]
   refine wpAnyH_ready (rs:=[9]) (by kernel_rfl) (by simp) ?_
   refine AllReadyH.cons (o:=_) rfl (fun K hK=>?_) AllReadyH.nil
   go_simp
   refine (members_fit (by rw [VM.list_len]) (members_any (findD S.defs n).1.params Dm q3 v.ms.list A4 k4 w5 B (fun b=>b < w5.heap.size) (by have:=M5.out.size;omega) (fun _ h=>h) HLM.out (by rw [VM.list_len];exact HVZ.out) (RowT.keep (fun b h=>⟨h.1,rfl⟩) _ _ HMM.out) (by rw [← encM_list];exact RowT.below ((N3.out.low.mono hBw).trans (M5.out.below hB (by omega))) HM.out))).mono ?_
   rintro e w6 ⟨A6,c6,rfl,hlc,hp,hb6⟩
   have HP:=Hd hp
   have B6:=Hd hb6
   clear hp hb6
   go_wp2_with fail
   refine hK.out _ _ (wb_written ((wb_last hHeld).next (by omega) (by omega) (.inl trivial) (MoX.of_below B6.out))) (fun hHeld=>?_)
   clear hK K
   try simp only [Act.put,zgA,zgB,zgC,stT,stZ,stS]
   refine ztk 10 (v:=?_) ?_ (by assumption) ?_
   rotate_left
   · (intro w hSw;(try dsimp only at hSw);go_simp;try with_reducible rfl)
   try simp only [Act.put,zgA,zgB,zgC,stT,stZ,stS]
   refine wpAnyH_done (by kernel_rfl) ?_ _
   go_wp2_with fail
   go_ret
   rw [HE.out]
   have hs5:=M5.out.size
   have M6:=((MoX.of_below N3.out.low).trans (M5.out)).trans (MoX.of_below B6.out)
   exact ⟨A6,c6,w5.heap.size,rfl,hlc,⟨by omega,B6.out.size⟩,HP.out,M6,mok_cut O5.out B6.out⟩
 case true =>
  rw [if_pos (by simp)] at IT
  unfold yesT at IT
  go_enter Tryz.func179,Tryz.ntmps179
  go_upto_region 1 with fail
  generalize (w.alloc (.cells #[.slice A S.defs.length k,.string S.query,.string S.mutation,.map (some M)] 157)).alloc (.cells #[.string n,.int .i64 l,.int .i64 m,.bool hs,.int .i64 v.kd,.int .i64 v.nn,.string v.ss,.slice A3 v.ls.len k3,.slice A4 v.ms.len k4] 163)=w1 at N0 ⊢
  obtain ⟨⟨y0,y1,y2,y3,y4,y5,y6,y7,y8⟩,_⟩:=nine_cells N0.out.b1
  go_wp2_with fail
  refine (IT.out _).mono ?_
  rintro e w2 ⟨rfl,hb2⟩
  have N2:=Hd (N0.out.next hb2)
  clear hb2 y0 y1 y2 y3 y4 y5 y6 y7 y8 N0
  go_upto_region 2 with fail
  have N3:=Hd (N2.out.next (dbelow_new w2 (.cells #[.string n,.int .i64 (l - 1),.int .i64 (m / 2)] 43)))
  have I3:=heap_alloc_new w2 (.cells #[.string n,.int .i64 (l - 1),.int .i64 (m / 2)] 43)
  generalize w2.alloc (.cells #[.string n,.int .i64 (l - 1),.int .i64 (m / 2)] 43)=w3 at N3 I3 ⊢
  generalize w2.heap.size=g2 at I3 ⊢
  clear N2
  obtain ⟨⟨y0,y1,y2,y3,y4,y5,y6,y7,y8⟩,_⟩:=nine_cells N3.out.b1
  obtain ⟨x0,x1,x2,x3⟩:=four_cells N3.out.b0
  obtain ⟨i0,i1,i2⟩:=three_cells I3
  cases b8
  case true =>
   rw [if_pos (by simp)] at HE
   go_wp2_with fail
   go_ret
   rw [HE.out]
   exact ⟨none,0,w.heap.size,rfl,Nat.le_refl _,⟨Nat.le_refl _,N3.out.low.size⟩,fun j x hx=>by simp at hx,MoX.of_below N3.out.low,mok_cut HO.out N3.out.low⟩
  cases b0
  case true =>
   rw [if_pos (by simp)] at HE
   go_wp2_with fail
   go_ret
   rw [HE.out]
   exact ⟨none,0,w.heap.size,rfl,Nat.le_refl _,⟨Nat.le_refl _,N3.out.low.size⟩,fun j x hx=>by simp at hx,MoX.of_below N3.out.low,mok_cut HO.out N3.out.low⟩
  rw [if_neg (by simp)] at HE
  rw [if_pos (by simp)] at HE
  cases b6
  case false =>
   rw [if_neg (by simp)] at HE
   go_wp2_with fail
   go_ret
   rw [HE.out]
   have hw3:=N3.out.low.size
   exact ⟨some ⟨w3.heap.size,0,none⟩,1,w.heap.size,rfl,Nat.le_refl _,⟨Nat.le_refl _,(N3.out.low.alloc hw3 _).size⟩,one_pls HNL.out (TS.keep (P':=fun b=>b < B) (fun b hb=>⟨hb,(Below.heap_alloc w3 _ b (by omega)).trans (N3.out.low.block b (by omega))⟩) _ _ HV.out) hw3,MoX.of_below (N3.out.low.alloc hw3 _),mok_cut HO.out (N3.out.low.alloc hw3 _)⟩
  case true =>
   rw [if_pos (by simp)] at HE
   go_wp2_with fail
   refine (EL.out _ N3.out.low).mono ?_
   rintro e w5 ⟨A5,c5,rfl,hlc,hp,hb5⟩
   have N5:=Hd (N3.out.next hb5)
   have HP:=Hd hp
   have hl5:Hid ((elemsL n (l - 1) (m / 2) v.ls.list).length=v.ls.len):=Hd (by unfold elemsL;rw [List.length_map,VL.list_len])
   clear hb5 hp
   go_wp2_with fail
   go_ret
   rw [HE.out]
   exact ⟨A5,c5,w.heap.size,rfl,hlc,⟨Nat.le_refl _,N5.out.low.size⟩,HP.out.base N3.out.low.size,MoX.of_below N5.out.low,mok_cut HO.out N5.out.low⟩
mutual
def szV:VT→Nat
 | .mk _ _ _ l m=>1+szL l+szM m
def szL:VL→Nat
 | .nil=>0
 | .cons v t=>szV v+szL t
def szM:VM→Nat
 | .nil=>0
 | .cons _ v t=>szV v+szM t
end
theorem szL_mem:∀ {l:VL} {x:VT},x ∈ l.list→szV x≤szL l
 | .nil,x,h=>by simp [VL.list] at h
 | .cons v t,x,h=>by
   rw [VL.list] at h
   rw [szL]
   rcases List.mem_cons.1 h with rfl|h
   · omega
   · have:=szL_mem h
     omega
theorem szM_mem:∀ {l:VM} {x:ByteArray × VT},x ∈ l.list→szV x.2≤szM l
 | .nil,x,h=>by simp [VM.list] at h
 | .cons n v t,x,h=>by
   rw [VM.list] at h
   rw [szM]
   rcases List.mem_cons.1 h with rfl|h
   · show szV v≤szV v+szM t;omega
   · have:=szM_mem h
     omega
def msr (p:PlT):Nat:=szV p.v*8+(if itemB p.tn p.tl p.tm=true then p.tl.toNat else 0)
theorem item_lists {n:ByteArray} {l m:Int} (h:itemB n l m=true):1≤l∧l≤4:=by
 unfold itemB at h
 rw [Bool.and_eq_true,decide_eq_true_eq] at h
 have:=right_small h.1
 omega
theorem msr_lt {p:PlT} {k:Nat} (h:szV p.v < k):msr p < k*8:=by
 unfold msr
 split
 · rename_i h1
   have:=item_lists h1
   omega
 · omega
theorem msr_ge (p:PlT):szV p.v*8≤msr p:=by unfold msr;omega
theorem within_msr {D:List DefnT} {p x:PlT} (h:x ∈ withinL D p):msr x < msr p:=by
 unfold withinL at h
 split at h
 · simp at h
 · split at h
   · rename_i hi
     split at h
     · unfold elemsL at h
       obtain ⟨v,hv,rfl⟩:=List.mem_map.1 h
       have h1:=szL_mem hv
       obtain ⟨tn,tl,tm,hs,k,n,s,l,m⟩:=p
       have h2:szV (.mk k n s l m)=1+szL l+szM m:=by rw [szV]
       have:=msr_ge ⟨tn,tl,tm,hs,.mk k n s l m⟩
       have:=msr_lt (p:=⟨tn,tl - 1,tm / 2,false,v⟩) (k:=szL l+1) (by show szV v < szL l+1;have h1:szV v≤szL l:=h1;omega)
       have h3:msr ⟨tn,tl,tm,hs,.mk k n s l m⟩ ≥ szV (.mk k n s l m)*8:=msr_ge ⟨tn,tl,tm,hs,.mk k n s l m⟩
       show msr ⟨tn,tl - 1,tm / 2,false,v⟩ < msr ⟨tn,tl,tm,hs,.mk k n s l m⟩
       omega
     · obtain rfl:x=_:=by simpa using h
       have h1:=item_lists hi
       unfold msr
       rw [if_pos hi]
       dsimp only
       split
       · omega
       · omega
   · split at h
     · unfold memsL at h
       obtain ⟨y,hy,hx⟩:=List.mem_flatMap.1 h
       have h1:=szM_mem hy
       split at hx
       · obtain rfl:x=_:=by simpa using hx
         obtain ⟨tn,tl,tm,hs,k,n,s,l,m⟩:=p
         have h2:szV (.mk k n s l m)=1+szL l+szM m:=by rw [szV]
         have h1:szV y.2≤szM m:=h1
         have h3:msr ⟨tn,tl,tm,hs,.mk k n s l m⟩ ≥ szV (.mk k n s l m)*8:=msr_ge ⟨tn,tl,tm,hs,.mk k n s l m⟩
         have h4:=msr_lt (p:=⟨(paramD (findD D tn).1.params y.1).1.tn,(paramD (findD D tn).1.params y.1).1.tl,(paramD (findD D tn).1.params y.1).1.tm,(paramD (findD D tn).1.params y.1).1.has,y.2⟩) (k:=szM m+1) (by show szV y.2 < szM m+1;omega)
         refine Nat.lt_of_lt_of_le h4 ?_
         show (szM m+1)*8≤msr ⟨tn,tl,tm,hs,.mk k n s l m⟩
         omega
       · simp at hx
     · simp at h
def placesF (D:List DefnT):Nat→PlT→List PlT
 | 0,p=>[p]
 | f+1,p=>p :: (withinL D p).flatMap (placesF D f)
theorem placesF_more {D:List DefnT} : ∀ (f g:Nat) (p:PlT),msr p≤f→msr p≤g→placesF D f p=placesF D g p
 | 0,0,_,_,_=>rfl
 | 0,g+1,p,h,_=>by
   have:withinL D p=[]:=by
    rw [List.eq_nil_iff_forall_not_mem]
    intro x hx
    have:=within_msr hx
    omega
   rw [placesF,placesF,this]
   rfl
 | f+1,0,p,_,h=>by
   have:withinL D p=[]:=by
    rw [List.eq_nil_iff_forall_not_mem]
    intro x hx
    have:=within_msr hx
    omega
   rw [placesF,placesF,this]
   rfl
 | f+1,g+1,p,h1,h2=>by
   rw [placesF,placesF]
   congr 1
   have hh:∀ l:List PlT,(∀ x,x ∈ l→msr x < msr p)→l.flatMap (placesF D f)=l.flatMap (placesF D g):=by
    intro l
    induction l with
    | nil=>intro _;rfl
    | cons a t ih =>
      intro h
      rw [List.flatMap_cons,List.flatMap_cons,ih (fun x hx=>h x (List.mem_cons_of_mem _ hx)),placesF_more f g a (by have:=h a (List.mem_cons_self ..);omega) (by have:=h a (List.mem_cons_self ..);omega)]
   exact hh _ (fun x hx=>within_msr hx)
def allP (D:List DefnT) (p:PlT):List PlT:=placesF D (msr p) p
theorem allP_eq (D:List DefnT) (p:PlT):allP D p=p :: (withinL D p).flatMap (allP D):=by
 unfold allP
 rw [placesF_more (msr p) (msr p+1) p (Nat.le_refl _) (Nat.le_succ _),placesF]
 congr 1
 have hh:∀ l:List PlT,(∀ x,x ∈ l→msr x < msr p)→l.flatMap (placesF D (msr p))=l.flatMap (fun x=>placesF D (msr x) x):=by
  intro l
  induction l with
  | nil=>intro _;rfl
  | cons a t ih =>
    intro h
    rw [List.flatMap_cons,List.flatMap_cons,ih (fun x hx=>h x (List.mem_cons_of_mem _ hx)),placesF_more (msr p) (msr a) a (by have:=h a (List.mem_cons_self ..);omega) (Nat.le_refl _)]
 exact hh _ (fun x hx=>within_msr hx)
def leftP (D:List DefnT) (stk:List (List PlT)):List PlT:=stk.reverse.flatMap fun l=>l.flatMap (allP D)
theorem leftP_snoc (D:List DefnT) (stk:List (List PlT)) (l:List PlT):leftP D (stk++[l])=l.flatMap (allP D)++leftP D stk:=by
 unfold leftP
 rw [List.reverse_append]
 rfl
theorem left_cons (D:List DefnT) (x:PlT) (l:List PlT):(x :: l).flatMap (allP D)=x :: ((withinL D x).flatMap (allP D)++l.flatMap (allP D)):=by
 rw [List.flatMap_cons,allP_eq]
 rfl
def kkP (p:PlT):Nat:=if itemB p.tn p.tl p.tm=true then p.tl.toNat else 0
theorem kk_le (p:PlT):kkP p≤4:=by
 unfold kkP
 split
 · rename_i h
   have:=item_lists h
   omega
 · omega
theorem szL_sum:∀ l:VL,(l.list.map szV).sum=szL l
 | .nil=>by rw [VL.list,szL];rfl
 | .cons v t=>by rw [VL.list,szL,List.map_cons,List.sum_cons,szL_sum t]
theorem szM_sum:∀ l:VM,(l.list.map fun x=>szV x.2).sum=szM l
 | .nil=>by rw [VM.list,szM];rfl
 | .cons n v t=>by rw [VM.list,szM,List.map_cons,List.sum_cons,szM_sum t]
theorem szV_pos:∀ v:VT,1≤szV v
 | .mk _ _ _ l m=>by rw [szV];omega
theorem elems_sum (f:PlT→Nat) (n:ByteArray) (l m:Int):∀ vs:List VT,(∀ x,x ∈ elemsL n l m vs→f x≤5*szV x.v)→((elemsL n l m vs).map f).sum≤5*(vs.map szV).sum
 | [],_=>by simp [elemsL]
 | v :: t,h=>by
   have h1:=h ⟨n,l,m,false,v⟩ (by simp [elemsL])
   have h2:=elems_sum f n l m t (fun x hx=>h x (by unfold elemsL at hx ⊢;rw [List.map_cons];exact List.mem_cons_of_mem _ hx))
   unfold elemsL at h2 ⊢
   rw [List.map_cons,List.map_cons,List.sum_cons,List.map_cons,List.sum_cons]
   have h1:f ⟨n,l,m,false,v⟩≤5*szV v:=h1
   omega
theorem mems_sum (f:PlT→Nat) (ps:List VarT):∀ ms:List (ByteArray × VT),(∀ x,x ∈ memsL ps ms→f x≤5*szV x.v)→((memsL ps ms).map f).sum≤5*(ms.map fun x=>szV x.2).sum
 | [],_=>by simp [memsL]
 | y :: t,h=>by
   have h2:=mems_sum f ps t (fun x hx=>h x (by unfold memsL at hx ⊢;rw [List.flatMap_cons];exact List.mem_append_right _ hx))
   unfold memsL at h h2 ⊢
   rw [List.flatMap_cons,List.map_append,List.sum_append,List.map_cons,List.sum_cons]
   have h1:((if (paramD ps y.1).2=true then [(⟨(paramD ps y.1).1.tn,(paramD ps y.1).1.tl,(paramD ps y.1).1.tm,(paramD ps y.1).1.has,y.2⟩:PlT)] else []).map f).sum≤5*szV y.2:=by
    split
    · rename_i hp
      rw [List.map_cons,List.map_nil,List.sum_cons,List.sum_nil,Nat.add_zero]
      exact h ⟨(paramD ps y.1).1.tn,(paramD ps y.1).1.tl,(paramD ps y.1).1.tm,(paramD ps y.1).1.has,y.2⟩ (by rw [List.flatMap_cons,if_pos hp];simp)
    · simp
   omega
theorem allP_len (D:List DefnT):∀ (n:Nat) (p:PlT),msr p≤n→(allP D p).length+4≤5*szV p.v+kkP p
 | n, p, hn=>by
   rw [allP_eq,List.length_cons,List.length_flatMap]
   have hp:=szV_pos p.v
   have ih:∀ x,x ∈ withinL D p→(allP D x).length+4≤5*szV x.v+kkP x:=fun x hx=>by
     have h1:=within_msr hx
     cases n with
     | zero=>omega
     | succ n=>exact allP_len D n x (by omega)
   have ih5:∀ x,x ∈ withinL D p→(allP D x).length≤5*szV x.v:=fun x hx=>by
     have h1:=ih x hx
     have h2:=kk_le x
     omega
   unfold withinL at ih ih5 ⊢
   obtain ⟨tn,tl,tm,hs,k,nn,s,l,m⟩:=p
   have hv:szV (.mk k nn s l m)=1+szL l+szM m:=by rw [szV]
   dsimp only at *
   split
   · simp;omega
   · rename_i h0
     rw [if_neg h0] at ih ih5
     split
     · rename_i hi
       rw [if_pos hi] at ih ih5
       split
       · rename_i h6
         rw [if_pos h6] at ih ih5
         have:=elems_sum (fun x=>(allP D x).length) tn (tl - 1) (tm / 2) l.list (fun x hx=>ih5 x hx)
         rw [szL_sum] at this
         simp only [VT.ls] at *
         omega
       · rename_i h6
         rw [if_neg h6] at ih ih5
         have h1:=ih _ (List.mem_singleton.2 rfl)
         dsimp only at h1
         have h2:=item_lists hi
         have h3:kkP ⟨tn,tl - 1,tm / 2,false,.mk k nn s l m⟩+1≤kkP ⟨tn,tl,tm,hs,.mk k nn s l m⟩:=by
          unfold kkP
          rw [if_pos hi]
          dsimp only
          split<;>omega
         simp only [List.map_cons,List.map_nil,List.sum_cons,List.sum_nil,Nat.add_zero]
         omega
     · rename_i hi
       rw [if_neg hi] at ih ih5
       split
       · rename_i h7
         rw [if_pos h7] at ih ih5
         have:=mems_sum (fun x=>(allP D x).length) (findD D tn).1.params m.list (fun x hx=>ih5 x hx)
         rw [szM_sum] at this
         simp only [VT.ms] at *
         omega
       · simp;omega
theorem allP_bd (D:List DefnT) (p:PlT):(allP D p).length≤5*szV p.v:=by
 have h1:=allP_len D _ p (Nat.le_refl _)
 have h2:=kk_le p
 omega
end Go.Proofs.YtaekdfcpbepepaaGreatDoor
