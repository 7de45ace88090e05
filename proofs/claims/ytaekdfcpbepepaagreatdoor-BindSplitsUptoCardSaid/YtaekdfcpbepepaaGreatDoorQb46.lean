/- The laws' own example of bind: the document's. (gen_bawake.py wrote it.) -/
import Derived.Test.YtaekdfcpbepepaaGreatDoorQbz
import Derived.Test.YtaekdfcpbepepaaGreatDoorQb45
set_option maxRecDepth 100000
set_option maxHeartbeats 8000000
namespace Go.Proofs.YtaekdfcpbepepaaGreatDoor
open List renaming getElem_toArray → zgA, getElem_cons_zero → zgB, getElem_cons_succ → zgC
open Go.RowKit
def boU:ByteArray:=⟨#[85,115,101,114]⟩
def boN:ByteArray:=⟨#[98,111,115,115]⟩
def boL:ByteArray:=⟨#[108,105,110,107]⟩
def boT:ByteArray:=⟨#[117]⟩
def boB:ByteArray:=⟨#[98]⟩
def boM:VM:=.cons nmTable (.mk 4 0 boT .nil .nil) (.cons nmCol (.mk 4 0 boB .nil .nil) .nil)
def boF:FieldT:=⟨boN,[],boU,0,0,[(boL,boM)]⟩
def boS:SchT:=⟨[⟨1,boU,[],[boF],[],[]⟩],boU,⟨#[]⟩⟩
def boE:SchT:=⟨[],⟨#[]⟩,⟨#[]⟩⟩
theorem bo_slim:SlimS boS:=by
 refine ⟨by decide,fun d hd=>?_⟩
 simp only [boS,List.mem_cons,List.not_mem_nil,or_false] at hd
 subst hd
 refine ⟨by decide,by decide,by decide,by decide,fun f hf=>?_⟩
 simp only [List.mem_cons,List.not_mem_nil,or_false] at hf
 subst hf
 refine ⟨by decide,by decide,fun x hx=>?_⟩
 simp only [boF,List.mem_cons,List.not_mem_nil,or_false] at hx
 subst hx
 decide
theorem boE_slim:SlimS boE:=⟨by decide,fun d hd=>by simp [boE] at hd⟩
theorem bo_ok:OkS boS:=okS_of (by decide +kernel) bo_slim
theorem boE_ok:OkS boE:=okS_of (by decide +kernel) boE_slim
theorem bo_r1:rule1B boS=true:=by decide +kernel
theorem bo_r2:rule2B boS=true:=by decide +kernel
theorem bo_r3:rule3B boS=true:=by decide +kernel
theorem bo_r4:rule4B boS=true:=by decide +kernel
theorem bo_r5:rule5B boS=true:=by decide +kernel
theorem bo_r6:rule6B boS=true:=by decide +kernel
theorem bo_r7:rule7B boS=true:=by decide +kernel
theorem bo_r9:rule9B boS=true:=by decide +kernel
theorem bo_r8:rule8B boS=true:=rule8_yes (fun d hd=>by
 simp only [boS,List.mem_cons,List.not_mem_nil,or_false] at hd
 subst hd
 refine Acc.intro _ fun y hy=>?_
 have h:needL boS.defs boU=[]:=by decide +kernel
 rw [h] at hy
 cases hy)
theorem bo_check:checkS boS=0:=check_full (fun k h1 h2=>by
 have h:k=1∨k=2∨k=3∨k=4∨k=5∨k=6∨k=7∨k=8∨k=9:=by omega
 rcases h with rfl|rfl|rfl|rfl|rfl|rfl|rfl|rfl|rfl
 · exact bo_r1
 · exact bo_r2
 · exact bo_r3
 · exact bo_r4
 · exact bo_r5
 · exact bo_r6
 · exact bo_r7
 · exact bo_r8
 · exact bo_r9)
theorem boE_check:checkS boE=1:=by
 have h1:bS boE 1=false:=by show rule1B boE=false;decide +kernel
 unfold checkS checkN
 simp only [firstN,h1]
 rfl
theorem bo_of:ofT boS boU boF=(⟨1,boT,boB,⟨#[]⟩,⟨#[]⟩⟩,true):=by
 have h1:ofOkB boS boU boF=true:=by decide +kernel
 unfold ofT
 rw [if_pos h1]
 have h2:sourceT boF.dirs boF.name=(⟨1,boT,boB,⟨#[]⟩,⟨#[]⟩⟩,true):=by kernel_rfl
 rw [h2]
theorem bo_serv:servB boS=true:=by
 have h:boS.defs.all (servD boS)=true:=by
  simp only [boS,List.all_cons,List.all_nil,Bool.and_true,servD,boundB]
  have:=bo_of
  unfold boS at this
  rw [this]
  rfl
 unfold servB
 rw [bo_check,h]
 rfl
theorem boE_serv:servB boE=false:=by
 unfold servB
 rw [boE_check]
 rfl
theorem bo_mems {W:World} {P:Nat→Prop} {gm:Nat} (hP:P gm) (h:W.heap[gm]? = some (.cells #[.string nmTable,.int .i64 4,.int .i64 0,.string boT,.slice none 0 0,.slice none 0 0,.string nmCol,.int .i64 4,.int .i64 0,.string boB,.slice none 0 0,.slice none 0 0] 97 (0,0))):RowT W P (encM boM) (some ⟨gm,0,none⟩):=by
 rw [encM_list]
 refine row_build (k:=6) (P:=P) hP pr_len fun q x hx=>?_
 have hx:[(nmTable,VT.mk 4 0 boT .nil .nil),(nmCol,VT.mk 4 0 boB .nil .nil)][q]? = some x:=hx
 match q,hx with
 | 0,hx =>
   cases hx
   refine ⟨[.string nmTable,.int .i64 4,.int .i64 0,.string boT,.slice none 0 0,.slice none 0 0],?_,fun j u hu=>?_⟩
   · unfold encPr
     simp only [TS,TP]
     exact ⟨_,_,rfl,⟨rfl,ok_sz (by decide)⟩,leaf_tsS 4 0 boT (by decide)⟩
   · match j,hu with
     | 0,hu|1,hu|2,hu|3,hu|4,hu|5,hu=>cases hu;exact (cells_get h _).trans rfl
     | n+6,hu=>simp at hu
 | 1,hx =>
   cases hx
   refine ⟨[.string nmCol,.int .i64 4,.int .i64 0,.string boB,.slice none 0 0,.slice none 0 0],?_,fun j u hu=>?_⟩
   · unfold encPr
     simp only [TS,TP]
     exact ⟨_,_,rfl,⟨rfl,ok_sz (by decide)⟩,leaf_tsS 4 0 boB (by decide)⟩
   · match j,hu with
     | 0,hu|1,hu|2,hu|3,hu|4,hu|5,hu=>cases hu;exact (cells_get h _).trans rfl
     | n+6,hu=>simp at hu
 | n+2,hx=>simp at hx
theorem bo_dirs {W:World} {P:Nat→Prop} {gm gd:Nat} (hm:P gm) (hd:P gd) (h:W.heap[gm]? = some (.cells #[.string nmTable,.int .i64 4,.int .i64 0,.string boT,.slice none 0 0,.slice none 0 0,.string nmCol,.int .i64 4,.int .i64 0,.string boB,.slice none 0 0,.slice none 0 0] 97 (0,0))) (h1:W.heap[gd]? = some (.cells #[.string boL,.slice (some ⟨gm,0,none⟩) 2 2] 83 (0,0))):RowT W P (rowOf encD boF.dirs) (some ⟨gd,0,none⟩):=by
 refine row_build (k:=2) (P:=P) hd len_dir fun q x hx=>?_
 match q,hx with
 | 0,hx =>
   cases hx
   refine ⟨[.string boL,.slice (some ⟨gm,0,none⟩) 2 2],?_,fun j u hu=>?_⟩
   · unfold encD
     simp only [TS,TP]
     exact ⟨_,_,rfl,⟨rfl,ok_sz (by decide)⟩,_,_,rfl,⟨some ⟨gm,0,none⟩,2,rfl,by decide,bo_mems hm h⟩,rfl⟩
   · match j,hu with
     | 0,hu|1,hu=>cases hu;exact (cells_get h1 _).trans rfl
     | n+2,hu=>simp at hu
 | n+1,hx=>simp [boF] at hx
theorem bo_fts {W:World} {P:Nat→Prop} {gm gd:Nat} (hm:P gm) (hd:P gd) (h:W.heap[gm]? = some (.cells #[.string nmTable,.int .i64 4,.int .i64 0,.string boT,.slice none 0 0,.slice none 0 0,.string nmCol,.int .i64 4,.int .i64 0,.string boB,.slice none 0 0,.slice none 0 0] 97 (0,0))) (h1:W.heap[gd]? = some (.cells #[.string boL,.slice (some ⟨gm,0,none⟩) 2 2] 83 (0,0))):TS W P (encField boF) [.string boN,.slice none 0 0,.string boU,.int .i64 0,.int .i64 0,.slice (some ⟨gd,0,none⟩) 1 1]:=
 fld_ts (x:=boF) ⟨by decide,by decide⟩ (by decide) (by decide) nil_row (bo_dirs hm hd h h1)
theorem bo_sts {W:World} {P:Nat→Prop} {gm gd gf gt:Nat} (hm:P gm) (hd:P gd) (hf:P gf) (ht:P gt) (h:W.heap[gm]? = some (.cells #[.string nmTable,.int .i64 4,.int .i64 0,.string boT,.slice none 0 0,.slice none 0 0,.string nmCol,.int .i64 4,.int .i64 0,.string boB,.slice none 0 0,.slice none 0 0] 97 (0,0))) (h1:W.heap[gd]? = some (.cells #[.string boL,.slice (some ⟨gm,0,none⟩) 2 2] 83 (0,0))) (h2:W.heap[gf]? = some (.cells #[.string boN,.slice none 0 0,.string boU,.int .i64 0,.int .i64 0,.slice (some ⟨gd,0,none⟩) 1 1] 46 (0,0))) (h3:W.heap[gt]? = some (.cells #[.int .i64 1,.string boU,.slice none 0 0,.slice (some ⟨gf,0,none⟩) 1 1,.slice none 0 0,.slice none 0 0] 37 (0,0))):TS W P (encSch boS) [.slice (some ⟨gt,0,none⟩) 1 1,.string boU,.string ⟨#[]⟩]:=by
 have hF:RowT W P (rowOf encField [boF]) (some ⟨gf,0,none⟩):=by
  refine row_build (k:=6) (P:=P) hf (fun _=>rfl) fun q x hx=>?_
  match q,hx with
  | 0,hx =>
    cases hx
    refine ⟨_,bo_fts hm hd h h1,fun j u hu=>?_⟩
    match j,hu with
    | 0,hu|1,hu|2,hu|3,hu|4,hu|5,hu=>cases hu;exact (cells_get h2 _).trans rfl
    | n+6,hu=>simp at hu
  | n+1,hx=>simp at hx
 have hD:RowT W P (rowOf encDefn boS.defs) (some ⟨gt,0,none⟩):=by
  refine row_build (k:=6) (P:=P) ht (fun _=>rfl) fun q x hx=>?_
  match q,hx with
  | 0,hx =>
    cases hx
    refine ⟨_,defn_ts (x:=⟨1,boU,[],[boF],[],[]⟩) (kf:=0) (kx:=1) (kp:=0) (km:=0) (by decide) (by decide) (by decide) (by decide) (by decide) (nil_row (A:=none)) hF (nil_row (A:=none)) (nil_row (A:=none)),fun j u hu=>?_⟩
    match j,hu with
    | 0,hu|1,hu|2,hu|3,hu|4,hu|5,hu=>cases hu;exact (cells_get h3 _).trans rfl
    | n+6,hu=>simp at hu
  | n+1,hx=>simp [boS] at hx
 simp only [encSch,TS,TP]
 exact ⟨_,_,rfl,⟨_,1,rfl,by decide,hD⟩,_,_,rfl,⟨rfl,ok_sz (by decide)⟩,_,_,rfl,⟨rfl,ok_sz (by decide)⟩,rfl⟩
def S6 (g:Nat) (d0 d1 d2 d3 d4 d5:Value) (w:World):Prop:=w.cell? ⟨g,0,none⟩=some d0∧w.cell? ⟨g,1,none⟩=some d1∧w.cell? ⟨g,2,none⟩=some d2∧w.cell? ⟨g,3,none⟩=some d3∧w.cell? ⟨g,4,none⟩=some d4∧w.cell? ⟨g,5,none⟩=some d5
theorem six_s6 {w:World} {g:Nat} {d0 d1 d2 d3 d4 d5:Value} {t:TypeId} (h:w.heap[g]? = some (.cells #[d0,d1,d2,d3,d4,d5] t (0,0))):S6 g d0 d1 d2 d3 d4 d5 w:=
 ⟨(cells_get h 0).trans rfl,(cells_get h 1).trans rfl,(cells_get h 2).trans rfl,(cells_get h 3).trans rfl,(cells_get h 4).trans rfl,(cells_get h 5).trans rfl⟩
theorem ret_sf {R:Ending→World→Prop} {fn:Func} {a:Act} {W:World} {c0 c1 c2 d0 d1 d2 d3 d4 d5:Value} {p u b b':Nat} (hf:fn.results=#[.cell p 24,.cell u 46]) (h2:a.tmps.getD p undef=.pointer (some ⟨b,0,none⟩)) (h3:a.tmps.getD u undef=.pointer (some ⟨b',0,none⟩)) (hd:a.defers=[])
  (hc:W.heap[b]? = some (.cells #[c0,c1,c2] 24 (0,0))) (hc':W.heap[b']? = some (.cells #[d0,d1,d2,d3,d4,d5] 46 (0,0))) (hR:R (.returned (.tuple #[.agg #[c0,c1,c2],.agg #[d0,d1,d2,d3,d4,d5]])) W):bodyPost Tryz.prog fn R .ret a W:=by
 have hl:(loadVar 24 ⟨b,0,none⟩).run Tryz.prog W=.ok (.agg #[c0,c1,c2]) W:=
  run_loadVar_row W b 24 24 #[c0,c1,c2] (0,0) _ hc Tryz.underlying24 rfl (by kernel_rfl)
 have hl':(loadVar 46 ⟨b',0,none⟩).run Tryz.prog W=.ok (.agg #[d0,d1,d2,d3,d4,d5]) W:=
  run_loadVar_row W b' 46 46 #[d0,d1,d2,d3,d4,d5] (0,0) _ hc' Tryz.underlying46 rfl (by kernel_rfl)
 refine bodyPost_ret ?_ hd hR
 have h2':a.tmps[p]?.getD undef=.pointer (some ⟨b,0,none⟩):=by rw [← h2];simp
 have h3':a.tmps[u]?.getD undef=.pointer (some ⟨b',0,none⟩):=by rw [← h3];simp
 simp [results,hf,h2',h3',asAddr,hl,hl']
structure BoK (w:World) (g0 g1 g2 g3 g4:Nat) (W:World):Prop where
 low:Below w.heap.size w W
 b0:W.heap[g0]? = some (.cells #[.slice none 0 0,.string ⟨#[]⟩,.string ⟨#[]⟩] 24 (0,0))
 b1:W.heap[g1]? = some (.cells #[.string ⟨#[]⟩,.slice none 0 0,.string ⟨#[]⟩,.int .i64 0,.int .i64 0,.slice none 0 0] 46 (0,0))
 b2:W.heap[g2]? = some (.cells #[.string nmTable,.int .i64 4,.int .i64 0,.string boT,.slice none 0 0,.slice none 0 0,.string nmCol,.int .i64 4,.int .i64 0,.string boB,.slice none 0 0,.slice none 0 0] 97 (0,0))
 b3:W.heap[g3]? = some (.cells #[.string boL,.slice (some ⟨g2,0,none⟩) 2 2] 83 (0,0))
 b4:W.heap[g4]? = some (.cells #[.string boN,.slice none 0 0,.string boU,.int .i64 0,.int .i64 0,.slice (some ⟨g3,0,none⟩) 1 1] 46 (0,0))
theorem BoK.next {w W W':World} {g0 g1 g2 g3 g4:Nat} (h:BoK w g0 g1 g2 g3 g4 W) (hb:Below W.heap.size W W'):BoK w g0 g1 g2 g3 g4 W':=
 ⟨h.low.trans (hb.mono h.low.size),(hb.block _ (Array.getElem?_eq_some_iff.1 h.b0).1).trans h.b0,(hb.block _ (Array.getElem?_eq_some_iff.1 h.b1).1).trans h.b1,(hb.block _ (Array.getElem?_eq_some_iff.1 h.b2).1).trans h.b2,(hb.block _ (Array.getElem?_eq_some_iff.1 h.b3).1).trans h.b3,(hb.block _ (Array.getElem?_eq_some_iff.1 h.b4).1).trans h.b4⟩
theorem five_new' (w:World) (o0 o1 o2 o3 o4:Obj):Below w.heap.size w (((((w.alloc o0).alloc o1).alloc o2).alloc o3).alloc o4)∧(((((w.alloc o0).alloc o1).alloc o2).alloc o3).alloc o4).heap[w.heap.size]? = some o0∧(((((w.alloc o0).alloc o1).alloc o2).alloc o3).alloc o4).heap[w.heap.size+1]? = some o1∧(((((w.alloc o0).alloc o1).alloc o2).alloc o3).alloc o4).heap[w.heap.size+1+1]? = some o2∧(((((w.alloc o0).alloc o1).alloc o2).alloc o3).alloc o4).heap[w.heap.size+1+1+1]? = some o3∧(((((w.alloc o0).alloc o1).alloc o2).alloc o3).alloc o4).heap[w.heap.size+1+1+1+1]? = some o4:=by
 obtain ⟨h0,h1,h2⟩:=three_new w o0 o1 o2
 have hb:=three_below w o0 o1 o2
 have hs:(((w.alloc o0).alloc o1).alloc o2).heap.size=w.heap.size+1+1+1:=by simp
 generalize ((w.alloc o0).alloc o1).alloc o2=W at h0 h1 h2 hb hs ⊢
 have n3:=heap_alloc_new W o3
 have n4:=heap_alloc_new (W.alloc o3) o4
 have hs2:(W.alloc o3).heap.size=W.heap.size+1:=by simp
 have hb2:=tbl W o3 o4
 rw [hs2,hs] at n4
 rw [hs] at n3
 exact ⟨hb.trans (hb2.mono hb.size),(hb2.block _ (by omega)).trans h0,(hb2.block _ (by omega)).trans h1,(hb2.block _ (by omega)).trans h2,((dbelow_new (W.alloc o3) o4).block _ (by omega)).trans n3,n4⟩
theorem set3_at {W:World} {b:Nat} {x0 x1 x2 c0 c1 c2:Value} {t:TypeId} (h:W.heap[b]? = some (.cells #[x0,x1,x2] t (0,0))):(((W.setCell ⟨b,0,none⟩ c0).setCell ⟨b,1,none⟩ c1).setCell ⟨b,2,none⟩ c2).heap[b]? = some (.cells #[c0,c1,c2] t (0,0)):=by
 simp [World.setCell,Array.getElem?_modify,h]
theorem set3_far {W:World} {b g:Nat} {c0 c1 c2:Value} (hne:b ≠ g):(((W.setCell ⟨b,0,none⟩ c0).setCell ⟨b,1,none⟩ c1).setCell ⟨b,2,none⟩ c2).heap[g]? = W.heap[g]?:=by
 simp [World.setCell,Array.getElem?_modify,hne]
theorem set3_low {w0 w:World} {B b:Nat} {c0 c1 c2:Value} (h:Below B w0 w) (hb:B≤b):Below B w0 (((w.setCell ⟨b,0,none⟩ c0).setCell ⟨b,1,none⟩ c1).setCell ⟨b,2,none⟩ c2):=
 ((h.setCell (p:=⟨b,0,none⟩) hb c0).setCell (p:=⟨b,1,none⟩) hb c1).setCell (p:=⟨b,2,none⟩) hb c2
theorem set3_size {w:World} {b:Nat} {c0 c1 c2:Value} : (((w.setCell ⟨b,0,none⟩ c0).setCell ⟨b,1,none⟩ c1).setCell ⟨b,2,none⟩ c2).heap.size=w.heap.size:=by simp [World.setCell]
theorem set6_at {W:World} {b:Nat} {x0 x1 x2 x3 x4 x5 c0 c1 c2 c3 c4 c5:Value} {t:TypeId} (h:W.heap[b]? = some (.cells #[x0,x1,x2,x3,x4,x5] t (0,0))):((((((W.setCell ⟨b,0,none⟩ c0).setCell ⟨b,1,none⟩ c1).setCell ⟨b,2,none⟩ c2).setCell ⟨b,3,none⟩ c3).setCell ⟨b,4,none⟩ c4).setCell ⟨b,5,none⟩ c5).heap[b]? = some (.cells #[c0,c1,c2,c3,c4,c5] t (0,0)):=by
 simp [World.setCell,Array.getElem?_modify,h]
theorem set6_far {W:World} {b g:Nat} {c0 c1 c2 c3 c4 c5:Value} (hne:b ≠ g):((((((W.setCell ⟨b,0,none⟩ c0).setCell ⟨b,1,none⟩ c1).setCell ⟨b,2,none⟩ c2).setCell ⟨b,3,none⟩ c3).setCell ⟨b,4,none⟩ c4).setCell ⟨b,5,none⟩ c5).heap[g]? = W.heap[g]?:=by
 simp [World.setCell,Array.getElem?_modify,hne]
theorem set6_size {w:World} {b:Nat} {c0 c1 c2 c3 c4 c5:Value} : ((((((w.setCell ⟨b,0,none⟩ c0).setCell ⟨b,1,none⟩ c1).setCell ⟨b,2,none⟩ c2).setCell ⟨b,3,none⟩ c3).setCell ⟨b,4,none⟩ c4).setCell ⟨b,5,none⟩ c5).heap.size=w.heap.size:=by simp [World.setCell]
theorem boss_any (w:World):Calls Tryz.prog 47 #[] w fun e w'=>∃ c0 c1 c2 d0 d1 d2 d3 d4 d5,e=.returned (.tuple #[.agg #[c0,c1,c2],.agg #[d0,d1,d2,d3,d4,d5]])∧c1=.string boU∧TS w' (fun b=>b < w'.heap.size) (encSch boS) [c0,c1,c2]∧TS w' (fun b=>b < w'.heap.size) (encField boF) [d0,d1,d2,d3,d4,d5]∧Below w.heap.size w w':=by
 have K0:BoK w w.heap.size (w.heap.size+1) (w.heap.size+1+1) (w.heap.size+1+1+1) (w.heap.size+1+1+1+1) _:=⟨(five_new' w _ _ _ _ _).1,(five_new' w _ _ _ _ _).2.1,(five_new' w _ _ _ _ _).2.2.1,(five_new' w _ _ _ _ _).2.2.2.1,(five_new' w _ _ _ _ _).2.2.2.2.1,(five_new' w _ _ _ _ _).2.2.2.2.2⟩
 have HK:=Hd K0
 clear K0
 go_enter Tryz.func47,Tryz.ntmps47
 go_upto_region 2 with fail
 unfold nmTable nmCol boT boB boN boU boL at HK
 generalize World.alloc _ _=w1 at HK ⊢
 obtain ⟨g0,hg0⟩:∃ g,w.heap.size=g:=⟨_,rfl⟩
 obtain ⟨g1,hg1⟩:∃ g,g0+1=g:=⟨_,rfl⟩
 obtain ⟨g2,hg2⟩:∃ g,g1+1=g:=⟨_,rfl⟩
 obtain ⟨g3,hg3⟩:∃ g,g2+1=g:=⟨_,rfl⟩
 obtain ⟨g4,hg4⟩:∃ g,g3+1=g:=⟨_,rfl⟩
 rw [hg0,hg1,hg2,hg3,hg4] at HK
 simp only [hg0,hg1,hg2,hg3,hg4]
 have HG:Hid (w.heap.size=g0∧g0+1=g1∧g1+1=g2∧g2+1=g3∧g3+1=g4):=Hd ⟨hg0,hg1,hg2,hg3,hg4⟩
 clear hg0 hg1 hg2 hg3 hg4
 have XD:=Hd (HK.out.next (Below.drew (Below.refl _ _)))
 generalize hwd:w1.drew=wd at XD
 refine wp_region_held_drew (S:=S6 g4 (.string boN) (.slice none 0 0) (.string boU) (.int .i64 0) (.int .i64 0) (.slice (some ⟨g3,0,none⟩) 1 1)) (by kernel_rfl) (by rw [hwd];exact six_s6 XD.out.b4) (fun hHeld=>?_)
 rw [hwd] at hHeld ⊢
 clear hwd HK
 refine ztk 0 (v:=?_) ?_ (by assumption) ?_
 rotate_left
 · (intro w hSw;(try dsimp only [S6] at hSw);go_simp;try with_reducible rfl)
 try simp only [Act.put,zgA,zgB,stT,stZ,stS]
 refine ztk 5 (v:=?_) ?_ (by assumption) ?_
 rotate_left
 · (intro w hSw;(try dsimp only [S6] at hSw);go_simp;try with_reducible rfl)
 try simp only [Act.put,zgA,zgB,zgC,stT,stZ,stS]
 refine wpAnyH_ready (rs:=[1]) (by kernel_rfl) (by simp) ?_
 refine AllReadyH.cons (o:=_) rfl (fun K hK=>?_) AllReadyH.nil
 go_simp
 have K1:=Hd (XD.out.next (dbelow_new wd (.cells #[.string boN,.slice none 0 0,.string boU,.int .i64 0,.int .i64 0,.slice (some ⟨g3,0,none⟩) 1 1] 46)))
 have F1:=Hd (heap_alloc_new wd (.cells #[.string boN,.slice none 0 0,.string boU,.int .i64 0,.int .i64 0,.slice (some ⟨g3,0,none⟩) 1 1] 46))
 have L1:=Hd (Array.getElem?_eq_some_iff.1 XD.out.b4).1
 generalize World.alloc wd _=w2 at K1 F1 ⊢
 generalize wd.heap.size=gf at F1 L1 ⊢
 clear XD hHeld
 refine hK.out _ _ (six_s6 K1.out.b4) (fun hHeld=>?_)
 clear hK K
 try simp only [Act.put,zgA,zgB,zgC,stT,stZ,stS]
 refine ztk 2 (v:=?_) ?_ (by assumption) ?_
 rotate_left
 · (intro w hSw;(try dsimp only [S6] at hSw);go_simp;try with_reducible rfl)
 try simp only [Act.put,zgA,zgB,zgC,stT,stZ,stS]
 refine wpAnyH_ready (rs:=[3]) (by kernel_rfl) (by simp) ?_
 refine AllReadyH.cons (o:=_) rfl (fun K hK=>?_) AllReadyH.nil
 go_simp
 have K2:=Hd (K1.out.next (dbelow_new w2 (.cells #[.int .i64 1,.string ⟨#[85,115,101,114]⟩,.slice none 0 0,.slice (some ⟨gf,0,none⟩) 1 1,.slice none 0 0,.slice none 0 0] 37)))
 have F2:=Hd (((dbelow_new w2 (.cells #[.int .i64 1,.string ⟨#[85,115,101,114]⟩,.slice none 0 0,.slice (some ⟨gf,0,none⟩) 1 1,.slice none 0 0,.slice none 0 0] 37)).block _ (Array.getElem?_eq_some_iff.1 F1.out).1).trans F1.out)
 have T2:=Hd (heap_alloc_new w2 (.cells #[.int .i64 1,.string ⟨#[85,115,101,114]⟩,.slice none 0 0,.slice (some ⟨gf,0,none⟩) 1 1,.slice none 0 0,.slice none 0 0] 37))
 have L2:=Hd (Array.getElem?_eq_some_iff.1 F1.out).1
 generalize World.alloc w2 _=w3 at K2 F2 T2 ⊢
 generalize w2.heap.size=gt at T2 L2 ⊢
 clear K1 F1 hHeld
 refine hK.out _ _ (six_s6 K2.out.b4) (fun hHeld=>?_)
 clear hK K
 try simp only [Act.put,zgA,zgB,zgC,stT,stZ,stS]
 refine ztk 4 (v:=?_) ?_ (by assumption) ?_
 rotate_left
 · (intro w hSw;(try dsimp only [S6] at hSw);go_simp;try with_reducible rfl)
 try simp only [Act.put,zgA,zgB,zgC,stT,stZ,stS]
 refine wpAnyH_ready (rs:=[6]) (by kernel_rfl) (by simp) ?_
 refine AllReadyH.cons (o:=_) rfl (fun K hK=>?_) AllReadyH.nil
 obtain ⟨u0,u1,u2⟩:=three_cells K2.out.b0
 have f0:=cells_frozen K2.out.b0 0
 have f1:=cells_frozen K2.out.b0 1
 have f2:=cells_frozen K2.out.b0 2
 go_simp
 have hgg:=HG.out
 have l1:=L1.out
 have l2:=L2.out
 refine hK.out _ _ (six_s6 ((set3_far (by omega)).trans K2.out.b4)) (fun hHeld=>?_)
 clear hK K u0 u1 u2 f0 f1 f2
 have C1:=Hd ((set3_far (W:=w3) (b:=g0) (g:=g1) (c0:=.slice (some ⟨gt,0,none⟩) 1 1) (c1:=.string ⟨#[85,115,101,114]⟩) (c2:=.string ⟨#[]⟩) (by omega)).trans K2.out.b1)
 try simp only [Act.put,zgA,zgB,zgC,stT,stZ,stS]
 refine wpAnyH_ready (rs:=[7]) (by kernel_rfl) (by simp) ?_
 refine AllReadyH.cons (o:=_) rfl (fun K hK=>?_) AllReadyH.nil
 obtain ⟨⟨u0,u1,u2,u3,u4,u5⟩,v0,v1,v2,v3,v4,v5⟩:=six_cells C1.out
 go_simp
 refine hK.out _ _ (six_s6 ((set6_far (by omega)).trans ((set3_far (by omega)).trans K2.out.b4))) (fun hHeld=>?_)
 clear hK K u0 u1 u2 u3 u4 u5 v0 v1 v2 v3 v4 v5 hHeld
 try simp only [Act.put,zgA,zgB,zgC,stT,stZ,stS]
 refine wpAnyH_done (by kernel_rfl) ?_ _
 go_wp2_with fail
 have far:∀ {g:Nat} {o:Obj},g0 ≠ g→g1 ≠ g→w3.heap[g]? = some o→_:=fun {g o} h0 h1 h=>(set6_far (W:=((w3.setCell ⟨g0,0,none⟩ (.slice (some ⟨gt,0,none⟩) 1 1)).setCell ⟨g0,1,none⟩ (.string ⟨#[85,115,101,114]⟩)).setCell ⟨g0,2,none⟩ (.string ⟨#[]⟩)) (b:=g1) (g:=g) (c0:=.string boN) (c1:=.slice none 0 0) (c2:=.string boU) (c3:=.int .i64 0) (c4:=.int .i64 0) (c5:=.slice (some ⟨g3,0,none⟩) 1 1) h1).trans ((set3_far (W:=w3) (b:=g0) (g:=g) h0).trans h)
 have s2:=(Array.getElem?_eq_some_iff.1 K2.out.b2).1
 have s3:=(Array.getElem?_eq_some_iff.1 K2.out.b3).1
 have s4:=(Array.getElem?_eq_some_iff.1 F2.out).1
 have s5:=(Array.getElem?_eq_some_iff.1 T2.out).1
 refine ret_sf rfl rfl rfl rfl ((set6_far (by omega)).trans (set3_at K2.out.b0)) (set6_at C1.out) ?_
 refine ⟨_,_,_,_,_,_,_,_,_,rfl,rfl,?_,?_,?_⟩
 · exact bo_sts (by rw [set6_size,set3_size];exact s2) (by rw [set6_size,set3_size];exact s3) (by rw [set6_size,set3_size];exact s4) (by rw [set6_size,set3_size];exact s5) (far (by omega) (by omega) K2.out.b2) (far (by omega) (by omega) K2.out.b3) (far (by omega) (by omega) F2.out) (far (by omega) (by omega) T2.out)
 · exact bo_fts (by rw [set6_size,set3_size];exact s2) (by rw [set6_size,set3_size];exact s3) (far (by omega) (by omega) K2.out.b2) (far (by omega) (by omega) K2.out.b3)
 · exact six_low (set3_low K2.out.low (by omega)) (by omega)
theorem boE_ts {W:World} {P:Nat→Prop} : TS W P (encSch boE) [.slice none 0 0,.string ⟨#[]⟩,.string ⟨#[]⟩]:=by
 simp only [encSch,TS,TP]
 exact ⟨_,_,rfl,⟨none,0,rfl,by simp [boE,rowOf,TrL.len],nil_row⟩,_,_,rfl,⟨rfl,ok_sz (by decide)⟩,_,_,rfl,⟨rfl,ok_sz (by decide)⟩,rfl⟩
structure BwK (w:World) (B g1 g2:Nat) (c0 c1 c2 d0 d1 d2 d3 d4 d5:Value) (W:World):Prop where
 low:Below w.heap.size w W
 le:B≤W.heap.size
 s:W.heap[g1]? = some (.cells #[c0,c1,c2] 24 (0,0))
 f:W.heap[g2]? = some (.cells #[d0,d1,d2,d3,d4,d5] 46 (0,0))
 ts:TS W (fun b=>b < B) (encSch boS) [c0,c1,c2]
 tf:TS W (fun b=>b < B) (encField boF) [d0,d1,d2,d3,d4,d5]
theorem BwK.next {w W W':World} {B g1 g2:Nat} {c0 c1 c2 d0 d1 d2 d3 d4 d5:Value} (h:BwK w B g1 g2 c0 c1 c2 d0 d1 d2 d3 d4 d5 W) (hb:Below W.heap.size W W'):BwK w B g1 g2 c0 c1 c2 d0 d1 d2 d3 d4 d5 W':=
 ⟨h.low.trans (hb.mono h.low.size),Nat.le_trans h.le hb.size,(hb.block _ (Array.getElem?_eq_some_iff.1 h.s).1).trans h.s,(hb.block _ (Array.getElem?_eq_some_iff.1 h.f).1).trans h.f,TS.low (hb.mono h.le) h.ts,TS.low (hb.mono h.le) h.tf⟩
theorem baw_any (w:World) (hw:Laid5 w):Calls Tryz.prog 22 #[] w fun e w'=>e=.returned (.bool true)∧Below w.heap.size w w':=by
 have HW:=Hd (fun (wx:World) (h:Below w.heap.size w wx)=>hw.below h)
 clear hw
 go_enter Tryz.func22,Tryz.ntmps22
 go_wp2_with fail
 refine (boss_any w).mono ?_
 rintro e w1 ⟨c0,c1,c2,d0,d1,d2,d3,d4,d5,rfl,rfl,hS,hF,hb⟩
 obtain ⟨A,k,e,_⟩:=sch_cells hS
 simp only [List.cons.injEq,and_true] at e
 obtain ⟨rfl,_,rfl⟩:=e
 obtain ⟨Ap,kp,Ad,kd,e,_⟩:=fld_cells hF
 simp only [List.cons.injEq,and_true] at e
 obtain ⟨rfl,rfl,rfl,rfl,rfl,rfl⟩:=e
 have HB1:=Hd hb
 have HS1:=Hd hS
 have HF1:=Hd hF
 clear hb hS hF
 go_upto_region 2 with fail
 have K1:BwK w w1.heap.size w1.heap.size (w1.heap.size+1) (.slice A boS.defs.length k) (.string boU) (.string boS.mutation) (.string boF.name) (.slice Ap boF.params.length kp) (.string boF.tn) (.int .i64 boF.tl) (.int .i64 boF.tm) (.slice Ad boF.dirs.length kd) ((w1.alloc (.cells #[.slice A boS.defs.length k,.string boU,.string boS.mutation] 24)).alloc (.cells #[.string boF.name,.slice Ap boF.params.length kp,.string boF.tn,.int .i64 boF.tl,.int .i64 boF.tm,.slice Ad boF.dirs.length kd] 46)):=
  have hb2:=tbl w1 (.cells #[.slice A boS.defs.length k,.string boU,.string boS.mutation] 24) (.cells #[.string boF.name,.slice Ap boF.params.length kp,.string boF.tn,.int .i64 boF.tl,.int .i64 boF.tm,.slice Ad boF.dirs.length kd] 46)
  ⟨HB1.out.trans (hb2.mono HB1.out.size),hb2.size,((dbelow_new (w1.alloc (.cells #[.slice A boS.defs.length k,.string boU,.string boS.mutation] 24)) (.cells #[.string boF.name,.slice Ap boF.params.length kp,.string boF.tn,.int .i64 boF.tl,.int .i64 boF.tm,.slice Ad boF.dirs.length kd] 46)).block w1.heap.size (by simp)).trans (heap_alloc_new w1 (.cells #[.slice A boS.defs.length k,.string boU,.string boS.mutation] 24)),heap_two w1 (.cells #[.slice A boS.defs.length k,.string boU,.string boS.mutation] 24) (.cells #[.string boF.name,.slice Ap boF.params.length kp,.string boF.tn,.int .i64 boF.tl,.int .i64 boF.tm,.slice Ad boF.dirs.length kd] 46),TS.low hb2 HS1.out,TS.low hb2 HF1.out⟩
 have HK1:=Hd K1
 clear K1 HB1 HS1 HF1
 generalize (w1.alloc (.cells #[.slice A boS.defs.length k,.string boU,.string boS.mutation] 24)).alloc (.cells #[.string boF.name,.slice Ap boF.params.length kp,.string boF.tn,.int .i64 boF.tl,.int .i64 boF.tm,.slice Ad boF.dirs.length kd] 46)=w2 at HK1 ⊢
 generalize hB:w1.heap.size=B at HK1 ⊢
 clear hB
 obtain ⟨gf,hgf⟩:∃ g,B+1=g:=⟨_,rfl⟩
 rw [hgf] at HK1
 simp only [hgf]
 clear hgf
 have OF:=Hd (of_any boS boU boF _ _ _ _ _ _ _ _ _ w2 B HK1.out.le bo_slim HK1.out.ts HK1.out.tf)
 rw [bo_of] at OF
 obtain ⟨z0,z1,z2⟩:=three_cells HK1.out.s
 obtain ⟨⟨v0,v1,v2,v3,v4,v5⟩,_⟩:=six_cells HK1.out.f
 go_wp2_with fail
 refine OF.out.mono ?_
 rintro e w3 ⟨rfl,hb⟩
 have HK3:=Hd (HK1.out.next hb)
 clear hb OF z0 z1 z2 v0 v1 v2 v3 v4 v5 HK1
 unfold bindV boT boB
 go_upto_region 3 with fail
 have HK4:=Hd (HK3.out.next (dbelow_new w3 (.cells #[.int .i64 1,.string ⟨#[117]⟩,.string ⟨#[98]⟩,.string ⟨#[]⟩,.string ⟨#[]⟩] 51)))
 have HX4:=Hd (heap_alloc_new w3 (.cells #[.int .i64 1,.string ⟨#[117]⟩,.string ⟨#[98]⟩,.string ⟨#[]⟩,.string ⟨#[]⟩] 51))
 generalize w3.alloc _=w4 at HK4 HX4 ⊢
 generalize w3.heap.size=gx at HX4 ⊢
 clear HK3
 obtain ⟨z0,z1,z2⟩:=three_cells HK4.out.s
 obtain ⟨y0,y1,y2,y3,y4,_⟩:=gvc HX4.out
 have CK:=Hd (bcheck_any boS bo_ok _ _ _ w4 B HK4.out.le HK4.out.ts (HW.out _ HK4.out.low))
 rw [bo_serv] at CK
 go_wp2_with fail
 refine CK.out.mono ?_
 rintro e w5 ⟨rfl,hb⟩
 have HK5:=Hd (HK4.out.next hb)
 clear hb CK z0 z1 z2 y0 y1 y2 y3 y4 HK4 HX4
 have CE:=Hd (bcheck_any boE boE_ok (.slice none 0 0) (.string ⟨#[]⟩) (.string ⟨#[]⟩) w5 w5.heap.size (Nat.le_refl _) boE_ts (HW.out _ HK5.out.low))
 rw [boE_serv] at CE
 go_wp2_with fail
 refine CE.out.mono ?_
 rintro e w6 ⟨rfl,hb⟩
 have HK6:=Hd (HK5.out.next hb)
 clear hb CE HK5
 go_wp2_with fail
 go_ret
 exact ⟨rfl,HK6.out.low⟩
end Go.Proofs.YtaekdfcpbepepaaGreatDoor
