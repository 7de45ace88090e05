/- bind.command, bind.told, bind.source. (gen_told.py wrote it.) -/
import Derived.Test.YtaekdfcpbepepaaGreatDoorQby
import Derived.Test.YtaekdfcpbepepaaGreatDoorQbz
import Derived.Test.YtaekdfcpbepepaaGreatDoorQb30
set_option maxRecDepth 100000
set_option maxHeartbeats 8000000
namespace Go.Proofs.YtaekdfcpbepepaaGreatDoor
open List renaming getElem_toArray → zgA, getElem_cons_zero → zgB, getElem_cons_succ → zgC
open Go.RowKit
def BindO (x:BindT × Bool) (w:World) (e:Ending) (w':World):Prop:=e=.returned (.tuple #[bindV x.1,.bool x.2])∧Below w.heap.size w w'
theorem ret_bind {R:Ending→World→Prop} {fn:Func} {a:Act} {W:World} {c0 c1 c2 c3 c4:Value} {p u b:Nat} (hf:fn.results=#[.cell p 51,.tmp u]) (h2:a.tmps.getD p undef=.pointer (some ⟨b,0,none⟩)) (hd:a.defers=[])
  (hc:W.heap[b]? = some (.cells #[c0,c1,c2,c3,c4] 51 (0,0))) (hR:R (.returned (.tuple #[.agg #[c0,c1,c2,c3,c4],a.tmps.getD u undef])) W):bodyPost Tryz.prog fn R .ret a W:=by
 have hl:(loadVar 51 ⟨b,0,none⟩).run Tryz.prog W=.ok (.agg #[c0,c1,c2,c3,c4]) W:=
  run_loadVar_row W b 51 51 #[c0,c1,c2,c3,c4] (0,0) _ hc Tryz.underlying51 rfl (by kernel_rfl)
 refine bodyPost_ret ?_ hd hR
 have h2':a.tmps[p]?.getD undef=.pointer (some ⟨b,0,none⟩):=by rw [← h2];simp
 simp [results,hf,h2',asAddr,hl]
theorem five_put {W:World} {g:Nat} {x0 x1 x2 x3 x4 c0 c1 c2 c3 c4:Value} {t:TypeId} (h:W.heap[g]? = some (.cells #[x0,x1,x2,x3,x4] t (0,0))) :
  (((((W.setCell ⟨g,0,none⟩ c0).setCell ⟨g,1,none⟩ c1).setCell ⟨g,2,none⟩ c2).setCell ⟨g,3,none⟩ c3).setCell ⟨g,4,none⟩ c4).heap[g]? = some (.cells #[c0,c1,c2,c3,c4] t (0,0)):=by
 simp [World.setCell,Array.getElem?_modify,h]
theorem five_down {w0 w:World} {B b:Nat} {c0 c1 c2 c3 c4:Value} (h:Below B w0 w) (hb:B≤b):Below B w0 (((((w.setCell ⟨b,0,none⟩ c0).setCell ⟨b,1,none⟩ c1).setCell ⟨b,2,none⟩ c2).setCell ⟨b,3,none⟩ c3).setCell ⟨b,4,none⟩ c4):=
 ((((h.setCell (p:=⟨b,0,none⟩) hb c0).setCell (p:=⟨b,1,none⟩) hb c1).setCell (p:=⟨b,2,none⟩) hb c2).setCell (p:=⟨b,3,none⟩) hb c3).setCell (p:=⟨b,4,none⟩) hb c4
theorem names_row {w:World} {g:Nat} {l:List ByteArray} (h:OutAt g l w) (hs:∀ s,s ∈ l→s.size≤9223372036854775807):RowT w (fun b=>b < w.heap.size) (rowOf encStr l) (some ⟨g,0,none⟩):=by
 refine row_build (k:=1) (P:=fun b=>b < w.heap.size) (Array.getElem?_eq_some_iff.1 h).1 (fun _=>rfl) fun q x hx=>⟨[.string x],?_,fun j u hj=>?_⟩
 · simp only [encStr,TS,TP]
   exact ⟨_,_,rfl,⟨rfl,hs x (List.mem_of_getElem? hx)⟩,rfl⟩
 · match j,hj with
   | 0,hj =>
     simp only [List.getElem?_cons_zero,Option.some.injEq] at hj
     subst hj
     have:=h.cell hx
     rw [Nat.mul_one,Nat.add_zero,Nat.zero_add]
     exact this
theorem out_far {g b:Nat} {out:List ByteArray} {w:World} {c0 c1 c2 c3 c4:Value} (h:OutAt g out w) (hne:b ≠ g):OutAt g out (((((w.setCell ⟨b,0,none⟩ c0).setCell ⟨b,1,none⟩ c1).setCell ⟨b,2,none⟩ c2).setCell ⟨b,3,none⟩ c3).setCell ⟨b,4,none⟩ c4):=by
 unfold OutAt at h ⊢
 simp [World.setCell,Array.getElem?_modify,hne,h]
abbrev S3 (g:Nat) (x0 x1 x2:ByteArray) (w:World):Prop:=w.cell? ⟨g,0,none⟩=some (.string x0)∧w.cell? ⟨g,1,none⟩=some (.string x1)∧w.cell? ⟨g,2,none⟩=some (.string x2)
theorem outs3 {g:Nat} {x0 x1 x2:ByteArray} {w:World} (h:OutAt g [x0,x1,x2] w):S3 g x0 x1 x2 w:=⟨h.cell rfl,h.cell rfl,h.cell rfl⟩
abbrev S2 (g:Nat) (x0 x1:ByteArray) (w:World):Prop:=w.cell? ⟨g,0,none⟩=some (.string x0)∧w.cell? ⟨g,1,none⟩=some (.string x1)
theorem outs2 {g:Nat} {x0 x1:ByteArray} {w:World} (h:OutAt g [x0,x1] w):S2 g x0 x1 w:=⟨h.cell rfl,h.cell rfl⟩
theorem len_3 {l:List ByteArray} (h:l.length=3):∃ a b c,l=[a,b,c]:=by
 match l,h with
 | [a,b,c],_=>exact ⟨a,b,c,rfl⟩
theorem len_2 {l:List ByteArray} (h:l.length=2):∃ a b,l=[a,b]:=by
 match l,h with
 | [a,b],_=>exact ⟨a,b,rfl⟩
theorem len_1 {l:List ByteArray} (h:l.length=1):∃ a,l=[a]:=by
 match l,h with
 | [a],_=>exact ⟨a,rfl⟩
theorem texts_3 {n0 n1 n2:ByteArray} {ms:List (ByteArray × VT)} : ∃ a b c ok,textsL [n0,n1,n2] ms=([a,b,c],ok):=by
 obtain ⟨a,b,c,h⟩:=len_3 (textsL_len [n0,n1,n2] ms)
 exact ⟨a,b,c,_,Prod.ext h rfl⟩
theorem texts_2 {n0 n1:ByteArray} {ms:List (ByteArray × VT)} : ∃ a b ok,textsL [n0,n1] ms=([a,b],ok):=by
 obtain ⟨a,b,h⟩:=len_2 (textsL_len [n0,n1] ms)
 exact ⟨a,b,_,Prod.ext h rfl⟩
theorem texts_1 {n0:ByteArray} {ms:List (ByteArray × VT)} : ∃ a ok,textsL [n0] ms=([a],ok):=by
 obtain ⟨a,h⟩:=len_1 (textsL_len [n0] ms)
 exact ⟨a,_,Prod.ext h rfl⟩
theorem vm_list_len:∀ m:VM,m.list.length=m.len
 | .nil=>rfl
 | .cons _ _ t=>by rw [VM.list,VM.len,List.length_cons,vm_list_len t]
theorem command_any (ms:List (ByteArray × VT)) (A:Option Addr) (c:Nat) (w:World) (hl:ms.length≤9223372036854775807) (hM:RowT w (fun b=>b < w.heap.size) (rowOf encPr ms) A) :
   Calls Tryz.prog 145 #[.slice A ms.length c] w (BindO (commandT ms) w):=by
 have HM:=Hd (fun (wx:World) (h:Below w.heap.size w wx)=>(RowT.keep (P':=fun b=>b < wx.heap.size) (fun b hb=>⟨Nat.lt_of_lt_of_le hb h.size,h.block b hb⟩) _ _ hM))
 have T3:=Hd (fun (wx:World) (h:Below w.heap.size w wx) (g:Nat) (hn:OutAt g [nmCmd,nmTable,nmCol] wx)=>texts_any ms [nmCmd,nmTable,nmCol] A c (some ⟨g,0,none⟩) 3 wx hl (by decide) (HM.out wx h) (names_row hn (by intro s hs;simp at hs;rcases hs with rfl|rfl|rfl<;>decide)))
 have T2:=Hd (fun (wx:World) (h:Below w.heap.size w wx) (g:Nat) (hn:OutAt g [nmCmd,nmTable] wx)=>texts_any ms [nmCmd,nmTable] A c (some ⟨g,0,none⟩) 2 wx hl (by decide) (HM.out wx h) (names_row hn (by intro s hs;simp at hs;rcases hs with rfl|rfl<;>decide)))
 clear hM HM
 have B1:=Hd (dbelow_new w (.cells #[.int .i64 0,.string ⟨#[]⟩,.string ⟨#[]⟩,.string ⟨#[]⟩,.string ⟨#[]⟩] 51))
 have Y1:=Hd (heap_alloc_new w (.cells #[.int .i64 0,.string ⟨#[]⟩,.string ⟨#[]⟩,.string ⟨#[]⟩,.string ⟨#[]⟩] 51))
 go_enter Tryz.func145,Tryz.ntmps145
 go_upto_region 1 with fail
 generalize w.alloc (.cells #[.int .i64 0,.string ⟨#[]⟩,.string ⟨#[]⟩,.string ⟨#[]⟩,.string ⟨#[]⟩] 51)=w1 at B1 Y1 ⊢
 have B2:=Hd (B1.out.trans ((dbelow_new w1 (.cells #[.string nmCmd,.string nmTable,.string nmCol] 9)).mono B1.out.size))
 have Y2:=Hd (((dbelow_new w1 (.cells #[.string nmCmd,.string nmTable,.string nmCol] 9)).block _ (Array.getElem?_eq_some_iff.1 Y1.out).1).trans Y1.out)
 have N2:=Hd (T3.out _ B2.out _ (heap_alloc_new w1 (.cells #[.string nmCmd,.string nmTable,.string nmCol] 9)))
 obtain ⟨x0,x1,x2,ok,hx⟩:=texts_3 (n0:=nmCmd) (n1:=nmTable) (n2:=nmCol) (ms:=ms)
 obtain ⟨z0,z1,ok2,hx2⟩:=texts_2 (n0:=nmCmd) (n1:=nmTable) (ms:=ms)
 have HC:Hid (commandT ms=if ok=true then (⟨3,x1,x2,⟨#[]⟩,x0⟩,x0.toList == [97,100,100]) else (⟨3,z1,⟨#[]⟩,⟨#[]⟩,z0⟩,ok2 && cmdB z0)):=Hd (by unfold commandT;rw [hx,hx2];rfl)
 rw [hx] at N2
 rw [hx2] at T2
 clear hx hx2 T3
 go_wp2_with fail
 refine N2.out.mono ?_
 rintro e w3 ⟨g,rfl,hg,ho,hb⟩
 have B3:=Hd (B2.out.trans (hb.mono B2.out.size))
 have Y3:=Hd ((hb.block _ (Array.getElem?_eq_some_iff.1 Y2.out).1).trans Y2.out)
 have HG0:=Hd hg
 have HO0:=Hd ho
 have HNE0:Hid (w.heap.size ≠ g):=Hd (by have h:=(Array.getElem?_eq_some_iff.1 Y2.out).1;have h2:=hg;omega)
 clear hb hg ho N2 B2 Y2
 cases ok with
 | true =>
   have HX:Hid (commandT ms=(⟨3,x1,x2,⟨#[]⟩,x0⟩,x0.toList == [97,100,100])):=Hd HC.out
   clear HC
   go_wp2_with fail
   have HB3:=Hd (B3.out.trans ((Below.drew (Below.refl w3.heap.size w3)).mono B3.out.size))
   have HY3:Hid (w3.drew.heap[w.heap.size]? = some _):=Hd Y3.out
   have HO3:Hid (OutAt g _ w3.drew):=Hd HO0.out
   have HNE:=Hd HNE0.out
   clear B3 Y3 HO0 HNE0
   generalize hwd:w3.drew=wd at HB3 HY3 HO3
   refine wp_region_held_drew (S:=S3 g x0 x1 x2) (by kernel_rfl) (by rw [hwd];exact outs3 HO3.out) (fun hHeld=>?_)
   rw [hwd] at hHeld ⊢
   clear hwd
   refine zt 0 ?_;try simp only [Act.put,zgA,zgB,stT,stZ,stS]
   refine zt 1 ?_;try simp only [Act.put,zgA,zgB,zgC,stT,stZ,stS]
   refine zt 2 ?_;try simp only [Act.put,zgA,zgB,zgC,stT,stZ,stS]
   refine zt 3 ?_;try simp only [Act.put,zgA,zgB,zgC,stT,stZ,stS]
   refine zt 4 ?_;try simp only [Act.put,zgA,zgB,zgC,stT,stZ,stS]
   refine zt 5 ?_;try simp only [Act.put,zgA,zgB,zgC,stT,stZ,stS]
   refine zt 6 ?_;try simp only [Act.put,zgA,zgB,zgC,stT,stZ,stS]
   refine zt 7 ?_;try simp only [Act.put,zgA,zgB,zgC,stT,stZ,stS]
   refine zt 8 ?_;try simp only [Act.put,zgA,zgB,zgC,stT,stZ,stS]
   refine zt 9 ?_;try simp only [Act.put,zgA,zgB,zgC,stT,stZ,stS]
   refine zt 10 ?_;try simp only [Act.put,zgA,zgB,zgC,stT,stZ,stS]
   refine zt 11 ?_;try simp only [Act.put,zgA,zgB,zgC,stT,stZ,stS]
   refine zt 12 ?_;try simp only [Act.put,zgA,zgB,zgC,stT,stZ,stS]
   refine zt 13 ?_;try simp only [Act.put,zgA,zgB,zgC,stT,stZ,stS]
   refine wpAnyH_ready (rs:=[14]) (by kernel_rfl) (by simp) ?_
   refine AllReadyH.cons (o:=_) rfl (fun K hK=>?_) AllReadyH.nil
   obtain ⟨u0,u1,u2,u3,u4,f4⟩:=gvc HY3.out
   have f0:=f4 0
   have f1:=f4 1
   have f2:=f4 2
   have f3:=f4 3
   have f5:=f4 4
   clear f4
   go_simp
   refine hK.out _ _ (outs3 (out_far HO3.out HNE.out)) (fun hHeld=>?_)
   clear hK K u0 u1 u2 u3 u4 f0 f1 f2 f3 f5
   try simp only [Act.put,zgA,zgB,zgC,stT,stZ,stS]
   refine zt 15 ?_;try simp only [Act.put,zgA,zgB,zgC,stT,stZ,stS]
   refine wpAnyH_done (by kernel_rfl) ?_ _
   go_wp2_with fail
   refine ret_bind rfl rfl rfl (five_put HY3.out) ?_
   rw [HX.out]
   exact ⟨rfl,five_down HB3.out (Nat.le_refl _)⟩
 | false =>
   have HX:Hid (commandT ms=(⟨3,z1,⟨#[]⟩,⟨#[]⟩,z0⟩,ok2 && cmdB z0)):=Hd HC.out
   clear HC
   clear HO0 HNE0 HG0
   have B4:=Hd (B3.out.trans ((dbelow_new w3 (.cells #[.string nmCmd,.string nmTable] 9)).mono B3.out.size))
   have Y4:=Hd (((dbelow_new w3 (.cells #[.string nmCmd,.string nmTable] 9)).block _ (Array.getElem?_eq_some_iff.1 Y3.out).1).trans Y3.out)
   have N4:=Hd (T2.out _ B4.out _ (heap_alloc_new w3 (.cells #[.string nmCmd,.string nmTable] 9)))
   clear T2
   go_wp2_with fail
   refine N4.out.mono ?_
   rintro e w5 ⟨g,rfl,hg,ho,hb⟩
   have B5:=Hd (B4.out.trans (hb.mono B4.out.size))
   have Y5:=Hd ((hb.block _ (Array.getElem?_eq_some_iff.1 Y4.out).1).trans Y4.out)
   have HO0:=Hd ho
   have HNE0:Hid (w.heap.size ≠ g):=Hd (by have h:=(Array.getElem?_eq_some_iff.1 Y4.out).1;have h2:=hg;omega)
   clear hb hg ho N4 B4 Y4 B3 Y3
   cases ok2 with
   | false =>
     have HX1:Hid (commandT ms=(⟨3,z1,⟨#[]⟩,⟨#[]⟩,z0⟩,false)):=Hd HX.out
     clear HX
     have HX:=Hd HX1.out
     go_wp2_with fail
     have HB3:=Hd (B5.out.trans ((Below.drew (Below.refl w5.heap.size w5)).mono B5.out.size))
     have HY3:Hid (w5.drew.heap[w.heap.size]? = some _):=Hd Y5.out
     have HO3:Hid (OutAt g _ w5.drew):=Hd HO0.out
     have HNE:=Hd HNE0.out
     clear B5 Y5 HO0 HNE0
     generalize hwd:w5.drew=wd at HB3 HY3 HO3
     refine wp_region_held_drew (S:=S2 g z0 z1) (by kernel_rfl) (by rw [hwd];exact outs2 HO3.out) (fun hHeld=>?_)
     rw [hwd] at hHeld ⊢
     clear hwd
     refine zt 0 ?_;try simp only [Act.put,zgA,zgB,stT,stZ,stS]
     refine zt 1 ?_;try simp only [Act.put,zgA,zgB,zgC,stT,stZ,stS]
     refine zt 2 ?_;try simp only [Act.put,zgA,zgB,zgC,stT,stZ,stS]
     refine zt 3 ?_;try simp only [Act.put,zgA,zgB,zgC,stT,stZ,stS]
     refine zt 4 ?_;try simp only [Act.put,zgA,zgB,zgC,stT,stZ,stS]
     refine zt 5 ?_;try simp only [Act.put,zgA,zgB,zgC,stT,stZ,stS]
     refine zt 6 ?_;try simp only [Act.put,zgA,zgB,zgC,stT,stZ,stS]
     refine zt 7 ?_;try simp only [Act.put,zgA,zgB,zgC,stT,stZ,stS]
     refine zt 8 ?_;try simp only [Act.put,zgA,zgB,zgC,stT,stZ,stS]
     refine zu 9 ?_;try simp only [Act.put,zgA,zgB,zgC,stT,stZ,stS]
     refine zu 10 ?_;try simp only [Act.put,zgA,zgB,zgC,stT,stZ,stS]
     refine zu 11 ?_;try simp only [Act.put,zgA,zgB,zgC,stT,stZ,stS]
     refine zu 12 ?_;try simp only [Act.put,zgA,zgB,zgC,stT,stZ,stS]
     refine zu 13 ?_;try simp only [Act.put,zgA,zgB,zgC,stT,stZ,stS]
     refine zt 14 ?_;try simp only [Act.put,zgA,zgB,zgC,stT,stZ,stS]
     refine wpAnyH_ready (rs:=[15]) (by kernel_rfl) (by simp) ?_
     refine AllReadyH.cons (o:=_) rfl (fun K hK=>?_) AllReadyH.nil
     obtain ⟨u0,u1,u2,u3,u4,f4⟩:=gvc HY3.out
     have f0:=f4 0
     have f1:=f4 1
     have f2:=f4 2
     have f3:=f4 3
     have f5:=f4 4
     clear f4
     go_simp
     refine hK.out _ _ (outs2 (out_far HO3.out HNE.out)) (fun hHeld=>?_)
     clear hK K u0 u1 u2 u3 u4 f0 f1 f2 f3 f5
     try simp only [Act.put,zgA,zgB,zgC,stT,stZ,stS]
     refine zt 16 ?_;try simp only [Act.put,zgA,zgB,zgC,stT,stZ,stS]
     refine wpAnyH_done (by kernel_rfl) ?_ _
     go_wp2_with fail
     refine ret_bind rfl rfl rfl (five_put HY3.out) ?_
     rw [HX.out]
     exact ⟨rfl,five_down HB3.out (Nat.le_refl _)⟩
   | true =>
     have HX1:Hid (commandT ms=(⟨3,z1,⟨#[]⟩,⟨#[]⟩,z0⟩,cmdB z0)):=Hd HX.out
     clear HX
     have HX:=Hd HX1.out
     go_wp2_with fail
     have HB3:=Hd (B5.out.trans ((Below.drew (Below.refl w5.heap.size w5)).mono B5.out.size))
     have HY3:Hid (w5.drew.heap[w.heap.size]? = some _):=Hd Y5.out
     have HO3:Hid (OutAt g _ w5.drew):=Hd HO0.out
     have HNE:=Hd HNE0.out
     clear B5 Y5 HO0 HNE0
     generalize hwd:w5.drew=wd at HB3 HY3 HO3
     refine wp_region_held_drew (S:=S2 g z0 z1) (by kernel_rfl) (by rw [hwd];exact outs2 HO3.out) (fun hHeld=>?_)
     rw [hwd] at hHeld ⊢
     clear hwd
     refine zt 0 ?_;try simp only [Act.put,zgA,zgB,stT,stZ,stS]
     refine zt 1 ?_;try simp only [Act.put,zgA,zgB,zgC,stT,stZ,stS]
     refine zt 2 ?_;try simp only [Act.put,zgA,zgB,zgC,stT,stZ,stS]
     refine zt 3 ?_;try simp only [Act.put,zgA,zgB,zgC,stT,stZ,stS]
     refine zt 4 ?_;try simp only [Act.put,zgA,zgB,zgC,stT,stZ,stS]
     refine zt 5 ?_;try simp only [Act.put,zgA,zgB,zgC,stT,stZ,stS]
     refine zt 6 ?_;try simp only [Act.put,zgA,zgB,zgC,stT,stZ,stS]
     refine zt 7 ?_;try simp only [Act.put,zgA,zgB,zgC,stT,stZ,stS]
     refine zt 8 ?_;try simp only [Act.put,zgA,zgB,zgC,stT,stZ,stS]
     refine zt 10 ?_;try simp only [Act.put,zgA,zgB,zgC,stT,stZ,stS]
     refine zt 11 ?_;try simp only [Act.put,zgA,zgB,zgC,stT,stZ,stS]
     refine zt 12 ?_;try simp only [Act.put,zgA,zgB,zgC,stT,stZ,stS]
     refine wpAnyH_ready (rs:=[9]) (by kernel_rfl) (by simp) ?_
     refine AllReadyH.cons (o:=_) rfl (fun K hK=>?_) AllReadyH.nil
     go_simp
     have HO4:=Hd (HO3.out.next (dbelow_new wd (.cells #[.string ⟨#[112,117,116]⟩,.string ⟨#[99,117,116]⟩,.string ⟨#[98,117,114,110]⟩] 9)))
     have HB4:=Hd (HB3.out.trans ((dbelow_new wd (.cells #[.string ⟨#[112,117,116]⟩,.string ⟨#[99,117,116]⟩,.string ⟨#[98,117,114,110]⟩] 9)).mono HB3.out.size))
     have HY4:=Hd (((dbelow_new wd (.cells #[.string ⟨#[112,117,116]⟩,.string ⟨#[99,117,116]⟩,.string ⟨#[98,117,114,110]⟩] 9)).block _ (Array.getElem?_eq_some_iff.1 HY3.out).1).trans HY3.out)
     have HN4:Hid (OutAt wd.heap.size [⟨#[112,117,116]⟩,⟨#[99,117,116]⟩,⟨#[98,117,114,110]⟩] (wd.alloc (.cells #[.string ⟨#[112,117,116]⟩,.string ⟨#[99,117,116]⟩,.string ⟨#[98,117,114,110]⟩] 9))):=Hd (heap_alloc_new wd (.cells #[.string ⟨#[112,117,116]⟩,.string ⟨#[99,117,116]⟩,.string ⟨#[98,117,114,110]⟩] 9))
     generalize wd.alloc (.cells #[.string ⟨#[112,117,116]⟩,.string ⟨#[99,117,116]⟩,.string ⟨#[98,117,114,110]⟩] 9)=we at HO4 HB4 HY4 HN4 ⊢
     generalize wd.heap.size=gn at HN4 ⊢
     have HCC:=Hd (contains_s (some ⟨gn,0,none⟩) 3 3 [⟨#[112,117,116]⟩,⟨#[99,117,116]⟩,⟨#[98,117,114,110]⟩] z0 we (by decide) (HN4.out.row (Array.getElem?_eq_some_iff.1 HN4.out).1))
     clear HO3 HB3 HY3 HN4 hHeld
     refine hK.out _ _ (outs2 HO4.out) (fun hHeld=>?_)
     clear hK K
     try simp only [Act.put,zgA,zgB,zgC,stT,stZ,stS]
     refine wpAnyH_ready (rs:=[13]) (by kernel_rfl) (by simp) ?_
     refine AllReadyH.cons (o:=_) rfl (fun K hK=>?_) AllReadyH.nil
     go_simp
     refine HCC.out.mono ?_
     rintro e wf ⟨rfl,hb⟩
     have HO3:=Hd (HO4.out.next hb)
     have HB3:=Hd (HB4.out.trans (hb.mono HB4.out.size))
     have HY3:=Hd ((hb.block _ (Array.getElem?_eq_some_iff.1 HY4.out).1).trans HY4.out)
     clear hb HCC HO4 HB4 HY4
     go_wp2_with fail
     refine hK.out _ _ (outs2 HO3.out) (fun hHeld=>?_)
     clear hK K
     try simp only [Act.put,zgA,zgB,zgC,stT,stZ,stS]
     refine zt 14 ?_;try simp only [Act.put,zgA,zgB,zgC,stT,stZ,stS]
     refine wpAnyH_ready (rs:=[15]) (by kernel_rfl) (by simp) ?_
     refine AllReadyH.cons (o:=_) rfl (fun K hK=>?_) AllReadyH.nil
     obtain ⟨u0,u1,u2,u3,u4,f4⟩:=gvc HY3.out
     have f0:=f4 0
     have f1:=f4 1
     have f2:=f4 2
     have f3:=f4 3
     have f5:=f4 4
     clear f4
     go_simp
     refine hK.out _ _ (outs2 (out_far HO3.out HNE.out)) (fun hHeld=>?_)
     clear hK K u0 u1 u2 u3 u4 f0 f1 f2 f3 f5
     try simp only [Act.put,zgA,zgB,zgC,stT,stZ,stS]
     refine zt 16 ?_;try simp only [Act.put,zgA,zgB,zgC,stT,stZ,stS]
     refine wpAnyH_done (by kernel_rfl) ?_ _
     go_wp2_with fail
     refine ret_bind rfl rfl rfl (five_put HY3.out) ?_
     rw [HX.out]
     exact ⟨rfl,five_down HB3.out (Nat.le_refl _)⟩
theorem told_any (d:DirT) (A:Option Addr) (c:Nat) (w:World) (hl:d.2.len≤9223372036854775807) (hM:RowT w (fun b=>b < w.heap.size) (encM d.2) A) :
   Calls Tryz.prog 91 #[.agg #[.string d.1,.slice A d.2.len c]] w (BindO (toldT d) w):=by
 rw [encM_list] at hM
 have hlen:d.2.list.length=d.2.len:=vm_list_len d.2
 have HM:=Hd (fun (wx:World) (h:Below w.heap.size w wx)=>(RowT.keep (P':=fun b=>b < wx.heap.size) (fun b hb=>⟨Nat.lt_of_lt_of_le hb h.size,h.block b hb⟩) _ _ hM))
 have TX:=Hd (fun (ns:List ByteArray) (hn:ns.length≤1000) (hs:∀ s,s ∈ ns→s.size≤9223372036854775807) (wx:World) (h:Below w.heap.size w wx) (g:Nat) (ho:OutAt g ns wx)=>texts_any d.2.list ns A c (some ⟨g,0,none⟩) ns.length wx (by rw [hlen];exact hl) hn (HM.out wx h) (names_row ho hs))
 have CM:=Hd (fun (wx:World) (h:Below w.heap.size w wx)=>command_any d.2.list A c wx (by rw [hlen];exact hl) (HM.out wx h))
 rw [hlen] at TX CM
 clear hM HM hlen hl
 obtain ⟨b0,hb0⟩:∃ b,w.heap.size+1=b:=⟨_,rfl⟩
 have HLE:Hid (w.heap.size≤b0):=Hd (by omega)
 have B1:=Hd (tbl w (.cells #[.string d.1,.slice A d.2.len c] 83) (.cells #[.int .i64 0,.string ⟨#[]⟩,.string ⟨#[]⟩,.string ⟨#[]⟩,.string ⟨#[]⟩] 51))
 have Y1:=Hd (heap_two w (.cells #[.string d.1,.slice A d.2.len c] 83) (.cells #[.int .i64 0,.string ⟨#[]⟩,.string ⟨#[]⟩,.string ⟨#[]⟩,.string ⟨#[]⟩] 51))
 have D1:=Hd (((dbelow_new (w.alloc (.cells #[.string d.1,.slice A d.2.len c] 83)) (.cells #[.int .i64 0,.string ⟨#[]⟩,.string ⟨#[]⟩,.string ⟨#[]⟩,.string ⟨#[]⟩] 51)).block w.heap.size (by simp)).trans (heap_alloc_new w (.cells #[.string d.1,.slice A d.2.len c] 83)))
 rw [hb0] at Y1
 go_enter Tryz.func91,Tryz.ntmps91
 go_upto_region 1 with fail
 clear hb0
 generalize (w.alloc (.cells #[.string d.1,.slice A d.2.len c] 83)).alloc (.cells #[.int .i64 0,.string ⟨#[]⟩,.string ⟨#[]⟩,.string ⟨#[]⟩,.string ⟨#[]⟩] 51)=w1 at B1 Y1 D1 ⊢
 obtain ⟨z0,z1⟩:=two_boxS D1.out
 cases h1:(d.1.toList == [99,111,108]) with
 | true =>
   obtain ⟨x0,ok,hx⟩:=texts_1 (n0:=nmName) (ms:=d.2.list)
   have HX:Hid (toldT d=(⟨0,⟨#[]⟩,x0,⟨#[]⟩,⟨#[]⟩⟩,ok)):=Hd (by unfold toldT;rw [h1];simp only [if_true];rw [hx];rfl)
   have B2:=Hd (B1.out.trans ((dbelow_new w1 (.cells #[.string nmName] 9)).mono B1.out.size))
   have Y2:=Hd (((dbelow_new w1 (.cells #[.string nmName] 9)).block _ (Array.getElem?_eq_some_iff.1 Y1.out).1).trans Y1.out)
   have N2:=Hd (TX.out [nmName] (by decide) (by intro s hs;simp at hs;rcases hs with rfl<;>decide) _ B2.out _ (heap_alloc_new w1 (.cells #[.string nmName] 9)))
   rw [hx] at N2
   clear hx TX CM
   go_wp2_with fail
   refine N2.out.mono ?_
   rintro e w3 ⟨g,rfl,hg,ho,hb⟩
   have B3:=Hd (B2.out.trans (hb.mono B2.out.size))
   have Y3:=Hd ((hb.block _ (Array.getElem?_eq_some_iff.1 Y2.out).1).trans Y2.out)
   have HO0:=Hd ho
   have HNE0:Hid (b0 ≠ g):=Hd (by have h:=(Array.getElem?_eq_some_iff.1 Y2.out).1;have h2:=hg;omega)
   clear hb hg ho N2 B2 Y2 B1 Y1 z0 z1
   have y0:=HO0.out.cell (k:=0) rfl
   obtain ⟨u0,u1,u2,u3,u4,f4⟩:=gvc Y3.out
   have f0:=f4 0
   have f1:=f4 1
   have f2:=f4 2
   have f3:=f4 3
   have f5:=f4 4
   clear f4
   go_wp2_with fail
   refine ret_bind rfl rfl rfl (five_put Y3.out) ?_
   rw [HX.out]
   exact ⟨rfl,five_down B3.out HLE.out⟩
 | false =>
   cases h2:(d.1.toList == [108,105,110,107]) with
   | true =>
     obtain ⟨x0,x1,ok,hx⟩:=texts_2 (n0:=nmTable) (n1:=nmCol) (ms:=d.2.list)
     have HX:Hid (toldT d=(⟨1,x0,x1,⟨#[]⟩,⟨#[]⟩⟩,ok)):=Hd (by unfold toldT;rw [h1,h2];simp only [if_true];rw [hx];rfl)
     have B2:=Hd (B1.out.trans ((dbelow_new w1 (.cells #[.string nmTable,.string nmCol] 9)).mono B1.out.size))
     have Y2:=Hd (((dbelow_new w1 (.cells #[.string nmTable,.string nmCol] 9)).block _ (Array.getElem?_eq_some_iff.1 Y1.out).1).trans Y1.out)
     have N2:=Hd (TX.out [nmTable,nmCol] (by decide) (by intro s hs;simp at hs;rcases hs with rfl|rfl<;>decide) _ B2.out _ (heap_alloc_new w1 (.cells #[.string nmTable,.string nmCol] 9)))
     rw [hx] at N2
     clear hx TX CM
     go_wp2_with fail
     refine N2.out.mono ?_
     rintro e w3 ⟨g,rfl,hg,ho,hb⟩
     have B3:=Hd (B2.out.trans (hb.mono B2.out.size))
     have Y3:=Hd ((hb.block _ (Array.getElem?_eq_some_iff.1 Y2.out).1).trans Y2.out)
     have HO0:=Hd ho
     have HNE0:Hid (b0 ≠ g):=Hd (by have h:=(Array.getElem?_eq_some_iff.1 Y2.out).1;have h2:=hg;omega)
     clear hb hg ho N2 B2 Y2 B1 Y1 z0 z1
     go_wp2_with fail
     have HB3:=Hd (B3.out.trans ((Below.drew (Below.refl w3.heap.size w3)).mono B3.out.size))
     have HY3:Hid (w3.drew.heap[b0]? = some _):=Hd Y3.out
     have HO3:Hid (OutAt g _ w3.drew):=Hd HO0.out
     have HNE:=Hd HNE0.out
     clear B3 Y3 HO0 HNE0
     generalize hwd:w3.drew=wd at HB3 HY3 HO3
     refine wp_region_held_drew (S:=S2 g x0 x1) (by kernel_rfl) (by rw [hwd];exact outs2 HO3.out) (fun hHeld=>?_)
     rw [hwd] at hHeld ⊢
     clear hwd
     refine zt 0 ?_;try simp only [Act.put,zgA,zgB,stT,stZ,stS]
     refine zt 1 ?_;try simp only [Act.put,zgA,zgB,zgC,stT,stZ,stS]
     refine zt 2 ?_;try simp only [Act.put,zgA,zgB,zgC,stT,stZ,stS]
     refine zt 3 ?_;try simp only [Act.put,zgA,zgB,zgC,stT,stZ,stS]
     refine zt 4 ?_;try simp only [Act.put,zgA,zgB,zgC,stT,stZ,stS]
     refine zt 5 ?_;try simp only [Act.put,zgA,zgB,zgC,stT,stZ,stS]
     refine zt 6 ?_;try simp only [Act.put,zgA,zgB,zgC,stT,stZ,stS]
     refine zt 7 ?_;try simp only [Act.put,zgA,zgB,zgC,stT,stZ,stS]
     refine wpAnyH_ready (rs:=[8]) (by kernel_rfl) (by simp) ?_
     refine AllReadyH.cons (o:=_) rfl (fun K hK=>?_) AllReadyH.nil
     obtain ⟨u0,u1,u2,u3,u4,f4⟩:=gvc HY3.out
     have f0:=f4 0
     have f1:=f4 1
     have f2:=f4 2
     have f3:=f4 3
     have f5:=f4 4
     clear f4
     go_simp
     refine hK.out _ _ (outs2 (out_far HO3.out HNE.out)) (fun hHeld=>?_)
     clear hK K u0 u1 u2 u3 u4 f0 f1 f2 f3 f5
     try simp only [Act.put,zgA,zgB,zgC,stT,stZ,stS]
     refine zt 9 ?_;try simp only [Act.put,zgA,zgB,zgC,stT,stZ,stS]
     refine wpAnyH_done (by kernel_rfl) ?_ _
     go_wp2_with fail
     refine ret_bind rfl rfl rfl (five_put HY3.out) ?_
     rw [HX.out]
     exact ⟨rfl,five_down HB3.out HLE.out⟩
   | false =>
     cases h3:(d.1.toList == [103,101,116]) with
     | true =>
       obtain ⟨x0,x1,ok,hx⟩:=texts_2 (n0:=nmTable) (n1:=nmArg) (ms:=d.2.list)
       have HX:Hid (toldT d=(⟨2,x0,⟨#[]⟩,x1,⟨#[]⟩⟩,ok)):=Hd (by unfold toldT;rw [h1,h2,h3];simp only [if_true];rw [hx];rfl)
       have B2:=Hd (B1.out.trans ((dbelow_new w1 (.cells #[.string nmTable,.string nmArg] 9)).mono B1.out.size))
       have Y2:=Hd (((dbelow_new w1 (.cells #[.string nmTable,.string nmArg] 9)).block _ (Array.getElem?_eq_some_iff.1 Y1.out).1).trans Y1.out)
       have N2:=Hd (TX.out [nmTable,nmArg] (by decide) (by intro s hs;simp at hs;rcases hs with rfl|rfl<;>decide) _ B2.out _ (heap_alloc_new w1 (.cells #[.string nmTable,.string nmArg] 9)))
       rw [hx] at N2
       clear hx TX CM
       go_wp2_with fail
       refine N2.out.mono ?_
       rintro e w3 ⟨g,rfl,hg,ho,hb⟩
       have B3:=Hd (B2.out.trans (hb.mono B2.out.size))
       have Y3:=Hd ((hb.block _ (Array.getElem?_eq_some_iff.1 Y2.out).1).trans Y2.out)
       have HO0:=Hd ho
       have HNE0:Hid (b0 ≠ g):=Hd (by have h:=(Array.getElem?_eq_some_iff.1 Y2.out).1;have h2:=hg;omega)
       clear hb hg ho N2 B2 Y2 B1 Y1 z0 z1
       go_wp2_with fail
       have HB3:=Hd (B3.out.trans ((Below.drew (Below.refl w3.heap.size w3)).mono B3.out.size))
       have HY3:Hid (w3.drew.heap[b0]? = some _):=Hd Y3.out
       have HO3:Hid (OutAt g _ w3.drew):=Hd HO0.out
       have HNE:=Hd HNE0.out
       clear B3 Y3 HO0 HNE0
       generalize hwd:w3.drew=wd at HB3 HY3 HO3
       refine wp_region_held_drew (S:=S2 g x0 x1) (by kernel_rfl) (by rw [hwd];exact outs2 HO3.out) (fun hHeld=>?_)
       rw [hwd] at hHeld ⊢
       clear hwd
       refine zt 0 ?_;try simp only [Act.put,zgA,zgB,stT,stZ,stS]
       refine zt 1 ?_;try simp only [Act.put,zgA,zgB,zgC,stT,stZ,stS]
       refine zt 2 ?_;try simp only [Act.put,zgA,zgB,zgC,stT,stZ,stS]
       refine zt 3 ?_;try simp only [Act.put,zgA,zgB,zgC,stT,stZ,stS]
       refine zt 4 ?_;try simp only [Act.put,zgA,zgB,zgC,stT,stZ,stS]
       refine zt 5 ?_;try simp only [Act.put,zgA,zgB,zgC,stT,stZ,stS]
       refine zt 6 ?_;try simp only [Act.put,zgA,zgB,zgC,stT,stZ,stS]
       refine zt 7 ?_;try simp only [Act.put,zgA,zgB,zgC,stT,stZ,stS]
       refine wpAnyH_ready (rs:=[8]) (by kernel_rfl) (by simp) ?_
       refine AllReadyH.cons (o:=_) rfl (fun K hK=>?_) AllReadyH.nil
       obtain ⟨u0,u1,u2,u3,u4,f4⟩:=gvc HY3.out
       have f0:=f4 0
       have f1:=f4 1
       have f2:=f4 2
       have f3:=f4 3
       have f5:=f4 4
       clear f4
       go_simp
       refine hK.out _ _ (outs2 (out_far HO3.out HNE.out)) (fun hHeld=>?_)
       clear hK K u0 u1 u2 u3 u4 f0 f1 f2 f3 f5
       try simp only [Act.put,zgA,zgB,zgC,stT,stZ,stS]
       refine zt 9 ?_;try simp only [Act.put,zgA,zgB,zgC,stT,stZ,stS]
       refine wpAnyH_done (by kernel_rfl) ?_ _
       go_wp2_with fail
       refine ret_bind rfl rfl rfl (five_put HY3.out) ?_
       rw [HX.out]
       exact ⟨rfl,five_down HB3.out HLE.out⟩
     | false =>
       cases h4:(d.1.toList == [100,111]) with
       | true =>
         have HX:Hid (toldT d=commandT d.2.list):=Hd (by unfold toldT;rw [h1,h2,h3,h4];rfl)
         go_wp2_with fail
         refine (CM.out _ B1.out).mono ?_
         rintro e w3 ⟨rfl,hb⟩
         have B3:=Hd (B1.out.trans (hb.mono B1.out.size))
         have Y3:=Hd ((hb.block _ (Array.getElem?_eq_some_iff.1 Y1.out).1).trans Y1.out)
         obtain ⟨u0,u1,u2,u3,u4,f4⟩:=gvc Y3.out
         have f0:=f4 0
         have f1:=f4 1
         have f2:=f4 2
         have f3:=f4 3
         have f5:=f4 4
         clear f4 hb
         unfold bindV
         go_wp2_with fail
         refine ret_bind rfl rfl rfl (five_put Y3.out) ?_
         rw [HX.out]
         exact ⟨rfl,five_down B3.out HLE.out⟩
       | false =>
         have HX:Hid (toldT d=(noneB,false)):=Hd (by unfold toldT;rw [h1,h2,h3,h4];rfl)
         obtain ⟨u0,u1,u2,u3,u4,f4⟩:=gvc Y1.out
         have f0:=f4 0
         have f1:=f4 1
         have f2:=f4 2
         have f3:=f4 3
         have f5:=f4 4
         clear f4
         go_wp2_with fail
         refine ret_bind rfl rfl rfl (five_put Y1.out) ?_
         rw [HX.out]
         exact ⟨rfl,five_down B1.out HLE.out⟩
end Go.Proofs.YtaekdfcpbepepaaGreatDoor
