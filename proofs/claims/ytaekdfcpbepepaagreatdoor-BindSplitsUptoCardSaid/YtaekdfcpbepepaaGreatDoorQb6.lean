/- The walks of the document's own Name and RightType. -/
import Derived.Test.YtaekdfcpbepepaaGreatDoorQb5
import Derived.Laws.BitsAllLaws
import Derived.Laws.BitsLemmas
set_option maxRecDepth 100000
set_option maxHeartbeats 8000000
namespace Go.Proofs.YtaekdfcpbepepaaGreatDoor
open Go.RowKit
theorem blw (w:World) (o:Obj):Below w.heap.size w (w.alloc o):=(Below.refl _ _).alloc (Nat.le_refl _) _
theorem ty_cells {w:World} {b:Nat} {x y z:Value} (h:w.heap[b]? = some (.cells #[x,y,z] 43 (0,0))):w.cell? ⟨b,0,none⟩=some x∧w.cell? ⟨b,1,none⟩=some y∧w.cell? ⟨b,2,none⟩=some z∧w.frozen? ⟨b,0,none⟩=false∧w.frozen? ⟨b,1,none⟩=false∧w.frozen? ⟨b,2,none⟩=false:=by
 simp [World.cell?,World.frozen?,h]
theorem ty_set {w:World} {b:Nat} {x y z x' y' z':Value} (h:w.heap[b]? = some (.cells #[x,y,z] 43 (0,0))):(((w.setCell ⟨b,0,none⟩ x').setCell ⟨b,1,none⟩ y').setCell ⟨b,2,none⟩ z').heap[b]? = some (.cells #[x',y',z'] 43 (0,0)):=by
 simp [World.setCell,Array.getElem?_modify,h]
theorem wset_other {w:World} {b c:Nat} {j:Nat} {v:Value} {o:Obj} (h:w.heap[b]? = some o) (hne:c ≠ b):(w.setCell ⟨c,j,none⟩ v).heap[b]? = some o:=by
 simp [World.setCell,Array.getElem?_modify,h,hne]
theorem ret_ty {R:Ending→World→Prop} {fn:Func} {a:Act} {W:World} {x y z:Value} {b:Nat} (hf:fn.results=#[.cell 2 43,.tmp 3]) (h2:a.tmps.getD 2 undef=.pointer (some ⟨b,0,none⟩)) (hd:a.defers=[])
  (hc:W.heap[b]? = some (.cells #[x,y,z] 43 (0,0))) (hR:R (.returned (.tuple #[.agg #[x,y,z],a.tmps.getD 3 undef])) W):bodyPost Tryz.prog fn R .ret a W:=by
 have hl:(loadVar 43 ⟨b,0,none⟩).run Tryz.prog W=.ok (.agg #[x,y,z]) W:=
  run_loadVar_row W b 43 43 #[x,y,z] (0,0) _ hc Tryz.underlying43 rfl (by kernel_rfl)
 refine bodyPost_ret ?_ hd hR
 have h2':a.tmps[2]?.getD undef=.pointer (some ⟨b,0,none⟩):=by rw [← h2];simp
 simp [results,hf,h2',asAddr,hl]
def noT:Value:=.tuple #[.agg #[.string ⟨#[]⟩,.int .i64 0,.int .i64 0],.bool false]
def yesT (n:ByteArray) (l m:Int):Value:=.tuple #[.agg #[.string n,.int .i64 l,.int .i64 m],.bool true]
def itemV (n:ByteArray) (l m:Int):Value:=if rightT n.data.toList l m=true∧l ≠ 0 then yesT n (l - 1) (m / 2) else noT
theorem new_two (w:World) (o o':Obj):((w.alloc o).alloc o').heap[w.heap.size]? = some o∧((w.alloc o).alloc o').heap[w.heap.size+1]? = some o':=by
 have h2:=heap_alloc_last (w.alloc o) o'
 have e:(w.alloc o).heap.size=w.heap.size+1:=by simp
 rw [e] at h2
 refine ⟨?_,h2⟩
 exact ((blw (w.alloc o) o').block w.heap.size (by omega)).trans (heap_alloc_last w o)
theorem wtwo_new {w w2:World} {x y z x' y' z':Value} (hb:Below ((w.alloc (.cells #[x,y,z] 43)).alloc (.cells #[x',y',z'] 43)).heap.size ((w.alloc (.cells #[x,y,z] 43)).alloc (.cells #[x',y',z'] 43)) w2) :
  w2.heap[w.heap.size]? = some (.cells #[x,y,z] 43 (0,0))∧w2.heap[w.heap.size+1]? = some (.cells #[x',y',z'] 43 (0,0))∧Below w.heap.size w w2:=by
 obtain ⟨h0,h1⟩:=new_two w (.cells #[x,y,z] 43) (.cells #[x',y',z'] 43)
 have e:((w.alloc (.cells #[x,y,z] 43)).alloc (.cells #[x',y',z'] 43)).heap.size=w.heap.size+1+1:=by simp
 refine ⟨(hb.block w.heap.size (by omega)).trans h0,(hb.block (w.heap.size+1) (by omega)).trans h1,below_new.trans ((below_new.mono (by simp)).trans (hb.mono (by omega)))⟩
theorem one_new {w w2:World} {x y z:Value} (hb:Below (w.alloc (.cells #[x,y,z] 43)).heap.size (w.alloc (.cells #[x,y,z] 43)) w2):w2.heap[w.heap.size]? = some (.cells #[x,y,z] 43 (0,0))∧Below w.heap.size w w2:=
 ⟨(hb.block w.heap.size (by simp)).trans (heap_alloc_last _ _),below_new.trans (hb.mono (by simp))⟩
theorem set3 {B:Nat} {w w2:World} {b:Nat} (h:Below B w w2) (hb:B≤b) (x y z:Value):Below B w (((w2.setCell ⟨b,0,none⟩ x).setCell ⟨b,1,none⟩ y).setCell ⟨b,2,none⟩ z):=((h.setCell hb _).setCell hb _).setCell hb _
theorem item_any (n:ByteArray) (l m:Int) (w:World) (hn:n.size≤9223372036854775807):Calls Tryz.prog 180 #[.agg #[.string n,.int .i64 l,.int .i64 m]] w fun e w'=>e=.returned (itemV n l m)∧Below w.heap.size w w':=by
 have HR:=fun w=>Hd (wright_any n l m w hn)
 cases hr:rightT n.data.toList l m
 · have hv:Hid (itemV n l m=noT):=Hd (by simp [itemV,hr])
   rw [hr] at HR
   clear hr
   go_enter Tryz.func180,Tryz.ntmps180
   go_wp2_with fail
   refine (HR _).out.mono ?_
   rintro e w2 ⟨rfl,hb2⟩
   obtain ⟨b0,b1,HB⟩:=wtwo_new hb2
   obtain ⟨a0,a1,a2,g0,g1,g2⟩:=ty_cells b0
   obtain ⟨c0,c1,c2,f0,f1,f2⟩:=ty_cells b1
   have H0:=Hd b0
   have H1:=Hd b1
   have HB':=Hd HB
   clear b0 b1 HB hb2 HR
   go_wp2_with fail
   refine ret_ty rfl rfl rfl (ty_set H1.out) ⟨?_,set3 HB'.out (Nat.le_succ _) _ _ _⟩
   rw [hv.out]
   rfl
 · by_cases hl:l=0
   · have hv:Hid (itemV n l m=noT):=Hd (by simp [itemV,hl])
     subst hl
     rw [hr] at HR
     clear hr
     go_enter Tryz.func180,Tryz.ntmps180
     go_wp2_with fail
     refine (HR _).out.mono ?_
     rintro e w2 ⟨rfl,hb2⟩
     obtain ⟨b0,b1,HB⟩:=wtwo_new hb2
     obtain ⟨a0,a1,a2,g0,g1,g2⟩:=ty_cells b0
     obtain ⟨c0,c1,c2,f0,f1,f2⟩:=ty_cells b1
     have H0:=Hd b0
     have H1:=Hd b1
     have HB':=Hd HB
     clear b0 b1 HB hb2 HR
     go_wp2_with fail
     refine ret_ty rfl rfl rfl (ty_set H1.out) ⟨?_,set3 HB'.out (Nat.le_succ _) _ _ _⟩
     rw [hv.out]
     rfl
   · have hv:Hid (itemV n l m=yesT n (l - 1) (m / 2)):=Hd (by simp [itemV,hl,hr])
     obtain ⟨s1,s2,s3,s4⟩:=right_small hr
     have e0:(l == 0)=false:=by simpa using hl
     rw [hr] at HR
     clear hr
     go_enter Tryz.func180,Tryz.ntmps180
     go_wp2_with fail
     refine (HR _).out.mono ?_
     rintro e w2 ⟨rfl,hb2⟩
     obtain ⟨b0,b1,HB⟩:=wtwo_new hb2
     obtain ⟨a0,a1,a2,g0,g1,g2⟩:=ty_cells b0
     obtain ⟨c0,c1,c2,f0,f1,f2⟩:=ty_cells b1
     have H0:=Hd b0
     have H1:=Hd b1
     have HB':=Hd HB
     clear b0 b1 HB hb2 HR
     go_wp2_with fail
     refine ret_ty rfl rfl rfl (ty_set (wset_other (wset_other H1.out (by omega)) (by omega))) ⟨?_,set3 ((HB'.out.setCell (Nat.le_refl _) _).setCell (Nat.le_refl _) _) (Nat.le_succ _) _ _ _⟩
     rw [hv.out]
     rfl
theorem OwnP.lt {P:Nat→Prop} {K:Nat} {w:World} {b:Nat} (h:OwnP P K w b):b < w.heap.size:=h.1
def FoundO (x:DefnT × Bool) (w:World) (e:Ending) (w':World):Prop:=
 ∃ c0 c1 c2 c3 c4 c5,e=.returned (.tuple #[.agg #[c0,c1,c2,c3,c4,c5],.bool x.2])∧TS w' (fun b=>b < w'.heap.size) (encDefn x.1) [c0,c1,c2,c3,c4,c5]∧Below w.heap.size w w'
structure FR (w:World) (c0 c1 c2:Value) (r:Obj) (W:World):Prop where
 low:Below w.heap.size w W
 size:w.heap.size+2≤W.heap.size
 box:W.heap[w.heap.size]? = some (.cells #[c0,c1,c2] 24 (0,0))
 res:W.heap[w.heap.size+1]? = some r
theorem FR.next {w W W':World} {c0 c1 c2:Value} {r:Obj} (h:FR w c0 c1 c2 r W) (hb:Below W.heap.size W W'):FR w c0 c1 c2 r W':=by
 have hs:=h.size
 exact ⟨h.low.trans (hb.mono h.low.size),Nat.le_trans h.size hb.size,(hb.block _ (by omega)).trans h.box,(hb.block _ (by omega)).trans h.res⟩
theorem FR.start (w:World) (c0 c1 c2:Value) (r:Obj):FR w c0 c1 c2 r ((w.alloc (.cells #[c0,c1,c2] 24)).alloc r):=
 ⟨tbl w _ _,by rw [two_size];exact Nat.le_refl _,(Below.heap_alloc (w.alloc (.cells #[c0,c1,c2] 24)) r w.heap.size (by simp)).trans (heap_alloc_new w (.cells #[c0,c1,c2] 24)),heap_two w _ _⟩
theorem Find_any (S:SchT) (n:ByteArray) (c0 c1 c2:Value) (w:World) (B:Nat) (hB:B≤w.heap.size) (hn:n.size≤9223372036854775807) (hz:SlimS S) (hS:TS w (fun b=>b < B) (encSch S) [c0,c1,c2]) :
  Calls Tryz.prog 18 #[.agg #[c0,c1,c2],.string n] w (FoundO (findD S.defs n) w):=by
 have F:=Hd (fun (wx:World) (hb:Below w.heap.size w wx)=>find_any S n c0 c1 c2 wx B (Nat.le_trans hB hb.size) hn (TS.low (hb.mono hB) hS))
 have FS:=Hd (find_slim hz.2 n)
 have HB:=Hd hB
 obtain ⟨A,k,e,_⟩:=sch_cells hS
 injection e with e0 e
 injection e with e1 e
 injection e with e2 e
 subst e0 e1 e2
 clear hB e hn hS hz
 generalize findD S.defs n=x at F FS ⊢
 have X0:=Hd (FR.start w (.slice A S.defs.length k) (.string S.query) (.string S.mutation) (.cells #[.int .i64 0,.string ⟨#[]⟩,.slice none 0 0,.slice none 0 0,.slice none 0 0,.slice none 0 0] 37))
 go_enter Tryz.func18,Tryz.ntmps18
 go_wp2_with fail
 refine (F.out _ X0.out.low).mono ?_
 rintro e w1 ⟨d0,d1,d2,d3,d4,d5,rfl,hT,hb1⟩
 have X1:=Hd (X0.out.next hb1)
 have T1:=Hd hT
 have D1:=Hd (fun o=>owndf_any x.1 d0 d1 d2 d3 d4 d5 (w1.alloc o) (fun b=>b < B) (fun b hb=>Nat.lt_of_lt_of_le hb (Nat.le_trans HB.out (Nat.le_trans X1.out.low.size (dbelow_new w1 o).size))) FS.out (TS.low ((dbelow_new w1 o).mono (Nat.le_trans HB.out X1.out.low.size)) T1.out))
 obtain ⟨Af,kf,Ax,kx,Ap,kp,Am,km,e,_⟩:=defn_cells hT
 simp only [List.cons.injEq,and_true] at e
 obtain ⟨rfl,rfl,rfl,rfl,rfl,rfl⟩:=e
 clear hT hb1 F X0
 go_wp2_with fail
 refine (D1.out _).mono ?_
 rintro e w2 ⟨A1,k1,A2,k2,A3,k3,A4,k4,rfl,hT2,hb2⟩
 have X2:=Hd ((X1.out.next (dbelow_new w1 _)).next hb2)
 have T2:=Hd hT2
 obtain ⟨⟨z0,z1,z2,z3,z4,z5⟩,v0,v1,v2,v3,v4,v5⟩:=six_cells X2.out.res
 have hs1:=X1.out.size
 clear hT2 hb2 D1 X1 T1
 go_wp2_with fail
 refine ret_d2 rfl rfl rfl (six_set X2.out.res) ?_
 refine ⟨_,_,_,_,_,_,rfl,TS.keep (fun b hb=>⟨by simpa [World.setCell] using hb.1,six_heap (hb.ne (g:=w.heap.size+1) (fun b h=>by have:=HB.out;omega) (by simp;omega))⟩) _ _ T2.out,six_low (b:=w.heap.size+1) X2.out.low (Nat.le_succ _)⟩
def VT.kd:VT→Int | .mk k _ _ _ _=>k
def VT.ls:VT→VL | .mk _ _ _ l _=>l
def VT.ms:VT→VM | .mk _ _ _ _ m=>m
def VT.ss:VT→ByteArray | .mk _ _ s _ _=>s
def VT.nn:VT→Int | .mk _ n _ _ _=>n
def VL.list:VL→List VT
 | .nil=>[]
 | .cons v t=>v :: t.list
def VM.list:VM→List (ByteArray × VT)
 | .nil=>[]
 | .cons n v t=>(n,v) :: t.list
theorem VL.list_len:∀ l:VL,l.list.length=l.len
 | .nil=>rfl
 | .cons v t=>by rw [VL.list,List.length_cons,VL.list_len t,VL.len]
theorem VM.list_len:∀ l:VM,l.list.length=l.len
 | .nil=>rfl
 | .cons n v t=>by rw [VM.list,List.length_cons,VM.list_len t,VM.len]
def encPr (p:ByteArray × VT):TrS:=.cons (.one (.string p.1)) (encV p.2)
theorem encL_list:∀ l:VL,encL l=rowOf encV l.list
 | .nil=>by rw [encL,VL.list,rowOf]
 | .cons v t=>by rw [encL,VL.list,rowOf,encL_list t]
theorem encM_list:∀ l:VM,encM l=rowOf encPr l.list
 | .nil=>by rw [encM,VM.list,rowOf]
 | .cons n v t=>by rw [encM,VM.list,rowOf,encM_list t,encPr]
structure PlT where
 tn:ByteArray
 tl:Int
 tm:Int
 has:Bool
 v:VT
def encPl (p:PlT):TrS:=.cons (.one (.string p.tn)) (.cons (.one (.int .i64 p.tl)) (.cons (.one (.int .i64 p.tm)) (.cons (.one (.bool p.has)) (encV p.v))))
theorem encPl_len (p:PlT):(encPl p).len=9:=by unfold encPl;simp only [TrS.len,encV_len]
def itemB (n:ByteArray) (l m:Int):Bool:=rightT n.data.toList l m && decide (l ≠ 0)
theorem itemV_eq (n:ByteArray) (l m:Int):itemV n l m=if itemB n l m=true then yesT n (l - 1) (m / 2) else noT:=by
 unfold itemV itemB
 simp only [Bool.and_eq_true,decide_eq_true_eq]
def zeroPar:VarT:=⟨⟨#[]⟩,⟨#[]⟩,0,0,false,.mk 0 0 ⟨#[]⟩ .nil .nil⟩
def paramD:List VarT→ByteArray→VarT × Bool
 | [],_=>(zeroPar,false)
 | x :: t,n=>if x.name.toList == n.toList then (x,true) else paramD t n
def elemsL (n:ByteArray) (l m:Int) (vs:List VT):List PlT:=vs.map fun x=>⟨n,l,m,false,x⟩
def memsL (ps:List VarT) (ms:List (ByteArray × VT)):List PlT:=ms.flatMap fun x=>if (paramD ps x.1).2=true then [⟨(paramD ps x.1).1.tn,(paramD ps x.1).1.tl,(paramD ps x.1).1.tm,(paramD ps x.1).1.has,x.2⟩] else []
def withinL (D:List DefnT) (p:PlT):List PlT:=
 if p.v.kd=8∨p.v.kd=0 then [] else
 if itemB p.tn p.tl p.tm=true then (if p.v.kd=6 then elemsL p.tn (p.tl - 1) (p.tm / 2) p.v.ls.list else [⟨p.tn,p.tl - 1,p.tm / 2,false,p.v⟩]) else
 if p.v.kd=7 then memsL (findD D p.tn).1.params p.v.ms.list else []
structure MoX (M:Nat) (w w':World):Prop where
 os:w'.os=w.os
 tape:w'.tape=w.tape
 output:w'.output=w.output
 size:w.heap.size≤w'.heap.size
 block:∀ b,b < w.heap.size→b ≠ M→w'.heap[b]? = w.heap[b]?
theorem MoX.trans {M:Nat} {a b c:World} (h:MoX M a b) (k:MoX M b c):MoX M a c:=
 ⟨k.os.trans h.os,k.tape.trans h.tape,k.output.trans h.output,Nat.le_trans h.size k.size,fun i h1 h2=>(k.block i (Nat.lt_of_lt_of_le h1 h.size) h2).trans (h.block i h1 h2)⟩
theorem MoX.of_below {M:Nat} {a b:World} (h:Below a.heap.size a b):MoX M a b:=⟨h.os,h.tape,h.output,h.size,fun i h1 _=>h.block i h1⟩
theorem MoX.below {M B:Nat} {a b:World} (h:MoX M a b) (hB:B≤M) (hs:B≤a.heap.size):Below B a b:=⟨h.os,h.tape,h.output,h.size,fun i hi=>h.block i (by omega) (by omega)⟩
theorem MoX.grown {M:Nat} {a b c:World} (h:MoX M a b) (hg:b.grownBy c (some M)):MoX M a c:=
 h.trans ⟨hg.os,hg.tape,hg.output,hg.size,fun i h1 h2=>hg.block i h1 (fun e=>h2 (by injection e))⟩
theorem MoX.set {M:Nat} {a b:World} (h:MoX M a b) {p:Addr} (hp:a.heap.size≤p.block) (v:Value):MoX M a (b.setCell p v):=
 ⟨h.os,h.tape,h.output,by simpa [World.setCell] using h.size,fun i h1 h2=>(Below.heap_setCell _ _ _ _ (by omega)).trans (h.block i h1 h2)⟩
def Rh (v:Value):Option (DataW Value × List MemPlace):=some (.held v,[])
def CacheD (D:List DefnT) (X:Nat→Prop) (W:World) (ents:List ByteArray) (m:DataW Value):Prop:=
 Maps.IsMap m∧∀ s:ByteArray,(s ∉ ents∧m.atKey (.string s.data.toList) (.lit (.bool false))=.lit (.bool false)) ∨
  (s ∈ ents∧∃ c0 c1 c2 c3 c4 c5,m.atKey (.string s.data.toList) (.lit (.bool false))=.held (.agg #[c0,c1,c2,c3,c4,c5])∧TS W (fun b=>b < W.heap.size∧¬ X b) (encDefn (findD D s).1) [c0,c1,c2,c3,c4,c5])
def MOK (D:List DefnT) (X:Nat→Prop) (KS:List ByteArray) (M:Nat) (W:World):Prop:=
 ∃ ents m,W.ownsMap Tryz.prog 9 Rh M ents.length m∧ents.Nodup∧(∀ s,s ∈ ents→s ∈ KS)∧CacheD D X W ents m
theorem MOK.lt {D:List DefnT} {X:Nat→Prop} {KS:List ByteArray} {M:Nat} {W:World} (h:MOK D X KS M W):M < W.heap.size:=by
 obtain ⟨_,_,h,_⟩:=h
 exact h.lt
theorem MOK.keep {D:List DefnT} {X:Nat→Prop} {KS:List ByteArray} {M:Nat} {W W':World} (h:MOK D X KS M W) (hs:W.heap.size≤W'.heap.size) (hM:W'.heap[M]? = W.heap[M]?) (hb:∀ b,b < W.heap.size→¬ X b→W'.heap[b]? = W.heap[b]?):MOK D X KS M W':=by
 obtain ⟨ents,m,h1,h2,h3,h4,h5⟩:=h
 obtain ⟨es,clock,g1,g2⟩:=h1
 refine ⟨ents,m,⟨es,clock,hM.trans g1,g2⟩,h2,h3,h4,fun s=>(h5 s).imp_right ?_⟩
 rintro ⟨e1,c0,c1,c2,c3,c4,c5,e2,e3⟩
 exact ⟨e1,c0,c1,c2,c3,c4,c5,e2,TS.keep (fun b hx=>⟨⟨Nat.lt_of_lt_of_le hx.1 hs,hx.2⟩,hb b hx.1 hx.2⟩) _ _ e3⟩
theorem MOK.low {D:List DefnT} {X:Nat→Prop} {KS:List ByteArray} {M:Nat} {W W':World} (h:MOK D X KS M W) (hb:Below W.heap.size W W'):MOK D X KS M W':=
 h.keep hb.size (hb.block _ h.lt) (fun b h1 _=>hb.block b h1)
theorem CacheD.nil (D:List DefnT) (X:Nat→Prop) (W:World):CacheD D X W [] (.map []):=⟨Maps.isMap_empty,fun s=>.inl ⟨by simp,rfl⟩⟩
theorem MOK.made (D:List DefnT) (X:Nat→Prop) (KS:List ByteArray) (w:World):MOK D X KS w.heap.size (w.alloc (.map #[] 0)):=
 ⟨[],.map [],World.ownsMap_made w _ _ _,List.nodup_nil,by simp,CacheD.nil _ _ _⟩
theorem nodup_le:∀ {L K:List ByteArray},L.Nodup→(∀ s,s ∈ L→s ∈ K)→L.length≤K.length
 | [],_,_,_=>Nat.zero_le _
 | a :: t,K,h,hs=>by
   obtain ⟨K1,K2,rfl⟩:=List.append_of_mem (hs a (List.mem_cons_self ..))
   have hn:=List.nodup_cons.1 h
   have:=nodup_le (L:=t) (K:=K1++K2) hn.2 (fun s h1=>by
    have h2:=hs s (List.mem_cons_of_mem _ h1)
    rcases List.mem_append.1 h2 with h3|h3
    · exact List.mem_append_left _ h3
    · rcases List.mem_cons.1 h3 with h4|h4
      · exact absurd (h4 ▸ h1) hn.1
      · exact List.mem_append_right _ h4)
   simp only [List.length_append,List.length_cons] at this ⊢
   omega
def zeroDv:Value:=.agg #[.int .i64 0,.string ⟨#[]⟩,.slice none 0 0,.slice none 0 0,.slice none 0 0,.slice none 0 0]
theorem zero_def (w:World):(zeroValue 37).run Tryz.prog w=.ok zeroDv w:=by rfl
theorem cache_look {D:List DefnT} {X:Nat→Prop} {ents:List ByteArray} {M n:Nat} {m:DataW Value} {w W:World} (hm:w.ownsMap Tryz.prog 9 Rh M n m) (hD:CacheD D X W ents m) (s:ByteArray) (hs:s.size≤maxLen) :
   (s ∉ ents∧(Instr.lookup 148 (.map (some M)) (.string s) true).run Tryz.prog w=.ok (.tuple #[zeroDv,.bool false]) w) ∨
   ∃ c0 c1 c2 c3 c4 c5,s ∈ ents∧(Instr.lookup 148 (.map (some M)) (.string s) true).run Tryz.prog w=.ok (.tuple #[.agg #[c0,c1,c2,c3,c4,c5],.bool true]) w∧TS W (fun b=>b < W.heap.size∧¬ X b) (encDefn (findD D s).1) [c0,c1,c2,c3,c4,c5]:=by
 have hkey:=WideMaps.keyOf_string_mk (P:=Tryz.prog) Tryz.underlying9 hs
 obtain ⟨es,clock,hb,F,_,e⟩:=hm
 rcases Maps.fit_look true (Maps.string_keyed Tryz.underlying9) Tryz.underlying148 (zero_def w) hb F hkey with ⟨hrun,_,hat⟩|⟨e0,y,_,_,hrun,hRv,hat,_⟩
 · rcases hD.2 s with ⟨h1,_⟩|⟨_,c0,c1,c2,c3,c4,c5,h2,_⟩
   · exact .inl ⟨h1,hrun⟩
   · have:=hat (.lit (.bool false))
     rw [← e,h2] at this
     cases this
 · have h0:=hat (.lit (.bool false))
   unfold Rh at hRv
   obtain rfl:=Option.some.inj hRv
   rw [← e] at h0
   rcases hD.2 s with ⟨_,h2⟩|⟨h1,c0,c1,c2,c3,c4,c5,h2,h3⟩
   · rw [h2] at h0;cases h0
   · rw [h2] at h0
     injection h0 with h0
     rw [← h0] at hrun
     exact .inr ⟨c0,c1,c2,c3,c4,c5,h1,hrun,h3⟩
theorem CacheD.keep {D:List DefnT} {X:Nat→Prop} {W W':World} {ents:List ByteArray} {m:DataW Value} (h:CacheD D X W ents m) (hs:W.heap.size≤W'.heap.size) (hb:∀ b,b < W.heap.size→¬ X b→W'.heap[b]? = W.heap[b]?):CacheD D X W' ents m:=by
 refine ⟨h.1,fun s=>(h.2 s).imp_right ?_⟩
 rintro ⟨e1,c0,c1,c2,c3,c4,c5,e2,e3⟩
 exact ⟨e1,c0,c1,c2,c3,c4,c5,e2,TS.keep (fun b hx=>⟨⟨Nat.lt_of_lt_of_le hx.1 hs,hx.2⟩,hb b hx.1 hx.2⟩) _ _ e3⟩
theorem CacheD.put {D:List DefnT} {X:Nat→Prop} {W:World} {ents:List ByteArray} {m:DataW Value} (h:CacheD D X W ents m) {s:ByteArray} {c0 c1 c2 c3 c4 c5:Value} (hT:TS W (fun b=>b < W.heap.size∧¬ X b) (encDefn (findD D s).1) [c0,c1,c2,c3,c4,c5]) :
   CacheD D X W (s :: ents) (m.put (.string s.data.toList) (.held (.agg #[c0,c1,c2,c3,c4,c5]))):=by
 refine ⟨h.1.put _ _,fun t=>?_⟩
 by_cases e:t=s
 · subst e
   exact .inr ⟨List.mem_cons_self ..,c0,c1,c2,c3,c4,c5,Maps.atKey_put_same h.1 (by trivial) _ _,hT⟩
 · have hne:(Lit.string t.data.toList) ≠ Lit.string s.data.toList:=fun e'=>by injection e' with e';exact e (ByteArray.ext (Array.toList_inj.1 e'))
   rw [Maps.atKey_put_other hne]
   rcases h.2 t with ⟨h1,h2⟩|⟨h1,h2⟩
   · exact .inl ⟨by simp [e,h1],h2⟩
   · exact .inr ⟨List.mem_cons_of_mem _ h1,h2⟩
def FoundP (x:DefnT × Bool) (B:Nat) (w:World) (e:Ending) (w':World):Prop:=
 ∃ c0 c1 c2 c3 c4 c5,e=.returned (.tuple #[.agg #[c0,c1,c2,c3,c4,c5],.bool x.2])∧TS w' (fun b=>b < w'.heap.size∧(b < B∨w.heap.size≤b)) (encDefn x.1) [c0,c1,c2,c3,c4,c5]∧Below w.heap.size w w'
theorem find_own (S:SchT) (n:ByteArray) (c0 c1 c2:Value) (w:World) (B:Nat) (hB:B≤w.heap.size) (hn:n.size≤9223372036854775807) (hz:SlimS S) (hS:TS w (fun b=>b < B) (encSch S) [c0,c1,c2]) :
  Calls Tryz.prog 18 #[.agg #[c0,c1,c2],.string n] w (FoundP (findD S.defs n) B w):=by
 have F:=Hd (fun (wx:World) (hb:Below w.heap.size w wx)=>find_any S n c0 c1 c2 wx B (Nat.le_trans hB hb.size) hn (TS.low (hb.mono hB) hS))
 have FS:=Hd (find_slim hz.2 n)
 have HB:=Hd hB
 obtain ⟨A,k,e,_⟩:=sch_cells hS
 injection e with e0 e
 injection e with e1 e
 injection e with e2 e
 subst e0 e1 e2
 clear hB e hn hS hz
 generalize findD S.defs n=x at F FS ⊢
 have X0:=Hd (FR.start w (.slice A S.defs.length k) (.string S.query) (.string S.mutation) (.cells #[.int .i64 0,.string ⟨#[]⟩,.slice none 0 0,.slice none 0 0,.slice none 0 0,.slice none 0 0] 37))
 go_enter Tryz.func18,Tryz.ntmps18
 go_wp2_with fail
 refine (F.out _ X0.out.low).mono ?_
 rintro e w1 ⟨d0,d1,d2,d3,d4,d5,rfl,hT,hb1⟩
 have X1:=Hd (X0.out.next hb1)
 have T1:=Hd hT
 have D1:=Hd (fun o=>owndf_any x.1 d0 d1 d2 d3 d4 d5 (w1.alloc o) (fun b=>b < B) (fun b hb=>Nat.lt_of_lt_of_le hb (Nat.le_trans HB.out (Nat.le_trans X1.out.low.size (dbelow_new w1 o).size))) FS.out (TS.low ((dbelow_new w1 o).mono (Nat.le_trans HB.out X1.out.low.size)) T1.out))
 obtain ⟨Af,kf,Ax,kx,Ap,kp,Am,km,e,_⟩:=defn_cells hT
 simp only [List.cons.injEq,and_true] at e
 obtain ⟨rfl,rfl,rfl,rfl,rfl,rfl⟩:=e
 clear hT hb1 F X0
 go_wp2_with fail
 refine (D1.out _).mono ?_
 rintro e w2 ⟨A1,k1,A2,k2,A3,k3,A4,k4,rfl,hT2,hb2⟩
 have X2:=Hd ((X1.out.next (dbelow_new w1 _)).next hb2)
 have T2:=Hd hT2
 obtain ⟨⟨z0,z1,z2,z3,z4,z5⟩,v0,v1,v2,v3,v4,v5⟩:=six_cells X2.out.res
 have hs1:=X1.out.size
 clear hT2 hb2 D1 X1 T1
 go_wp2_with fail
 refine ret_d2 rfl rfl rfl (six_set X2.out.res) ?_
 refine ⟨_,_,_,_,_,_,rfl,TS.keep (fun b hb=>⟨⟨by simpa [World.setCell] using hb.1,hb.2.imp_right (fun h=>by simp at h;omega)⟩,six_heap (hb.ne (g:=w.heap.size+1) (fun b h=>by have:=HB.out;omega) (by simp;omega))⟩) _ _ T2.out,six_low (b:=w.heap.size+1) X2.out.low (Nat.le_succ _)⟩
structure FB (w:World) (M:Nat) (c0 c1 c2:Value) (W:World):Prop where
 low:Below w.heap.size w W
 size:w.heap.size+2≤W.heap.size
 box:W.heap[w.heap.size]? = some (.cells #[c0,c1,c2,.map (some M)] 157 (0,0))
 res:W.heap[w.heap.size+1]? = some (.cells #[.int .i64 0,.string ⟨#[]⟩,.slice none 0 0,.slice none 0 0,.slice none 0 0,.slice none 0 0] 37 (0,0))
theorem FB.start (w:World) (M:Nat) (c0 c1 c2:Value):FB w M c0 c1 c2 ((w.alloc (.cells #[c0,c1,c2,.map (some M)] 157)).alloc (.cells #[.int .i64 0,.string ⟨#[]⟩,.slice none 0 0,.slice none 0 0,.slice none 0 0,.slice none 0 0] 37)):=
 ⟨tbl w _ _,by rw [two_size];exact Nat.le_refl _,(Below.heap_alloc (w.alloc (.cells #[c0,c1,c2,.map (some M)] 157)) _ w.heap.size (by simp)).trans (heap_alloc_new w (.cells #[c0,c1,c2,.map (some M)] 157)),heap_two w _ _⟩
theorem grown_of {w w':World} (h:Below w.heap.size w w'):w.grownBy w' none:=⟨h.os,h.tape,h.output,h.size,fun j hj _=>h.block j hj⟩
theorem four_cells {w:World} {g:Nat} {c0 c1 c2 c3:Value} {t:TypeId} (h:w.heap[g]? = some (.cells #[c0,c1,c2,c3] t (0,0))):w.cell? ⟨g,0,none⟩=some c0∧w.cell? ⟨g,1,none⟩=some c1∧w.cell? ⟨g,2,none⟩=some c2∧w.cell? ⟨g,3,none⟩=some c3:=by
 simp [World.cell?,h]
theorem FB.next {w W W':World} {M:Nat} {c0 c1 c2:Value} (h:FB w M c0 c1 c2 W) (hb:Below W.heap.size W W'):FB w M c0 c1 c2 W':=by
 have hs:=h.size
 exact ⟨h.low.trans (hb.mono h.low.size),Nat.le_trans h.size hb.size,(hb.block _ (by omega)).trans h.box,(hb.block _ (by omega)).trans h.res⟩
theorem six_mo {M:Nat} {w0 w:World} {b:Nat} {c0 c1 c2 c3 c4 c5:Value} (h:MoX M w0 w) (hb:w0.heap.size≤b):MoX M w0 ((((((w.setCell ⟨b,0,none⟩ c0).setCell ⟨b,1,none⟩ c1).setCell ⟨b,2,none⟩ c2).setCell ⟨b,3,none⟩ c3).setCell ⟨b,4,none⟩ c4).setCell ⟨b,5,none⟩ c5):=
 (((((h.set (p:=⟨b,0,none⟩) hb _).set (p:=⟨b,1,none⟩) hb _).set (p:=⟨b,2,none⟩) hb _).set (p:=⟨b,3,none⟩) hb _).set (p:=⟨b,4,none⟩) hb _).set (p:=⟨b,5,none⟩) hb _
theorem grown_six (w:World) (b:Nat) {c0 c1 c2 c3 c4 c5:Value} : w.grownBy ((((((w.setCell ⟨b,0,none⟩ c0).setCell ⟨b,1,none⟩ c1).setCell ⟨b,2,none⟩ c2).setCell ⟨b,3,none⟩ c3).setCell ⟨b,4,none⟩ c4).setCell ⟨b,5,none⟩ c5) (some b):=
 ⟨by simp [World.setCell],by simp [World.setCell],by simp [World.setCell],by simp [World.setCell],fun k _ h=>six_heap (fun e=>h (by rw [e]))⟩
def FoundC (D:List DefnT) (X:Nat→Prop) (KS:List ByteArray) (M:Nat) (n:ByteArray) (w:World) (e:Ending) (w':World):Prop:=
 ∃ d0 d1 d2 d3 d4 d5,e=.returned (.agg #[d0,d1,d2,d3,d4,d5])∧TS w' (fun b=>b < w'.heap.size∧¬ X b) (encDefn (findD D n).1) [d0,d1,d2,d3,d4,d5]∧MoX M w w'∧MOK D X KS M w'
theorem cfind_any (S:SchT) (n:ByteArray) (c0 c1 c2:Value) (w:World) (B M:Nat) (X:Nat→Prop) (KS:List ByteArray) (hB:B≤M) (hX:∀ b,X b→b < w.heap.size) (hXM:X M) (hXB:∀ b,b < B→¬ X b) (hK:n ∈ KS) (hKS:KS.length≤maxLen) (hn:n.size≤maxLen) (hz:SlimS S)
   (hS:TS w (fun b=>b < B) (encSch S) [c0,c1,c2]) (hO:MOK S.defs X KS M w) :
   Calls Tryz.prog 206 #[.agg #[c0,c1,c2,.map (some M)],.string n] w (FoundC S.defs X KS M n w):=by
 have hMl:=hO.lt
 have hn':n.size≤9223372036854775807:=by unfold maxLen at hn;omega
 have F:=Hd (fun (wx:World) (hb:Below w.heap.size w wx)=>find_own S n c0 c1 c2 wx B (by have:=hb.size;omega) hn' hz (TS.low (hb.mono (by omega)) hS))
 obtain ⟨A,k,e,_⟩:=sch_cells hS
 injection e with e0 e
 injection e with e1 e
 injection e with e2 e
 subst e0 e1 e2
 clear e hS hz hn'
 have HN:=Hd hn
 have HX:=Hd hX
 have HXB:=Hd hXB
 have HK:=Hd (And.intro hK (And.intro hKS hXM))
 have X0:=Hd (FB.start w M (.slice A S.defs.length k) (.string S.query) (.string S.mutation))
 obtain ⟨ents,m,hm,hnd,hsub,hD⟩:=hO
 have HM:=Hd (hm.kept (row:=none) (grown_of X0.out.low) (by simp))
 have HM0:=Hd hm
 have HND:=Hd (And.intro hnd hsub)
 have HD:=Hd hD
 clear hn hX hXB hK hKS hXM hm hnd hsub hD
 go_enter Tryz.func206,Tryz.ntmps206
 go_upto_region 1 with fail
 generalize (w.alloc (.cells #[.slice A S.defs.length k,.string S.query,.string S.mutation,.map (some M)] 157)).alloc (.cells #[.int .i64 0,.string ⟨#[]⟩,.slice none 0 0,.slice none 0 0,.slice none 0 0,.slice none 0 0] 37)=w1 at X0 HM ⊢
 obtain ⟨x0,x1,x2,x3⟩:=four_cells X0.out.box
 have LK:=cache_look HM.out HD.out n HN.out
 obtain ⟨x,hx⟩:∃ x,findD S.defs n=x:=⟨_,rfl⟩
 have HXE:=Hd hx
 have PUT:=fun (W:World) {d0 d1 d2 d3 d4 d5:Value} (h:CacheD S.defs X W ents m) (hT:TS W (fun b=>b < W.heap.size∧¬ X b) (encDefn x.1) [d0,d1,d2,d3,d4,d5])=>CacheD.put (s:=n) h (by rw [hx];exact hT)
 have HP:=Hd PUT
 rw [hx] at F LK
 clear hx PUT
 rcases LK with ⟨hne,hrun⟩|⟨d0,d1,d2,d3,d4,d5,hin,hrun,hT⟩
 · have HNE:=Hd hne
   clear hne
   unfold zeroDv at hrun
   go_upto_region 2 with fail
   have B2:=Hd (dbelow_new w1 (.cells #[.int .i64 0,.string ⟨#[]⟩,.slice none 0 0,.slice none 0 0,.slice none 0 0,.slice none 0 0] 37))
   have Y2:=Hd (heap_alloc_new w1 (.cells #[.int .i64 0,.string ⟨#[]⟩,.slice none 0 0,.slice none 0 0,.slice none 0 0,.slice none 0 0] 37))
   generalize w1.alloc (.cells #[.int .i64 0,.string ⟨#[]⟩,.slice none 0 0,.slice none 0 0,.slice none 0 0,.slice none 0 0] 37)=w2 at B2 Y2 ⊢
   have X2:=Hd (X0.out.next B2.out)
   have hlt1:=(Array.getElem?_eq_some_iff.1 Y2.out).1
   have hs1:=X0.out.size
   have HL2:=Hd (show w1.heap.size+1≤w2.heap.size by have:=(Array.getElem?_eq_some_iff.1 Y2.out).1;omega)
   obtain ⟨g,hg⟩:∃ g,w1.heap.size=g:=⟨_,rfl⟩
   have HG:=Hd hg
   rw [hg] at Y2 hs1 hlt1 HL2 ⊢
   clear x0 x1 x2 x3 hrun hg
   obtain ⟨x0,x1,x2,x3⟩:=four_cells X2.out.box
   go_wp2_with fail
   refine (F.out _ X2.out.low).mono ?_
   rintro e w3 ⟨d0,d1,d2,d3,d4,d5,rfl,hT,hb3⟩
   obtain ⟨Df,q0,Dx,q1,Dp,q2,Dm,q3,e,_⟩:=defn_cells hT
   simp only [List.cons.injEq,and_true] at e
   obtain ⟨rfl,rfl,rfl,rfl,rfl,rfl⟩:=e
   have B3:=Hd hb3
   have HT:=Hd hT
   have X3:=Hd (X2.out.next hb3)
   have Y3:=Hd ((hb3.block g hlt1).trans Y2.out)
   obtain ⟨⟨y0,y1,y2,y3,y4,y5⟩,v0,v1,v2,v3,v4,v5⟩:=six_cells Y3.out
   clear hT hb3 x0 x1 x2 x3
   go_upto_region 4 with fail
   clear y0 y1 y2 y3 y4 y5 v0 v1 v2 v3 v4 v5
   have hwg:w.heap.size+2≤g:=hs1
   have Y4:=six_set (c0:=.int .i64 x.1.kind) (c1:=.string x.1.name) (c2:=.slice Df x.1.faces.length q0) (c3:=.slice Dx x.1.fields.length q1) (c4:=.slice Dp x.1.parts.length q2) (c5:=.slice Dm x.1.params.length q3) Y3.out
   have B4:=Hd (six_low (c0:=.int .i64 x.1.kind) (c1:=.string x.1.name) (c2:=.slice Df x.1.faces.length q0) (c3:=.slice Dx x.1.fields.length q1) (c4:=.slice Dp x.1.parts.length q2) (c5:=.slice Dm x.1.params.length q3) (b:=g) X3.out.low (by omega))
   have T4:=Hd (TS.keep (w':=((((((w3.setCell ⟨g,0,none⟩ (.int .i64 x.1.kind)).setCell ⟨g,1,none⟩ (.string x.1.name)).setCell ⟨g,2,none⟩ (.slice Df x.1.faces.length q0)).setCell ⟨g,3,none⟩ (.slice Dx x.1.fields.length q1)).setCell ⟨g,4,none⟩ (.slice Dp x.1.parts.length q2)).setCell ⟨g,5,none⟩ (.slice Dm x.1.params.length q3))) (P':=fun b=>(b < B∨(w.heap.size+2≤b∧b ≠ g))∧b < ((((((w3.setCell ⟨g,0,none⟩ (.int .i64 x.1.kind)).setCell ⟨g,1,none⟩ (.string x.1.name)).setCell ⟨g,2,none⟩ (.slice Df x.1.faces.length q0)).setCell ⟨g,3,none⟩ (.slice Dx x.1.fields.length q1)).setCell ⟨g,4,none⟩ (.slice Dp x.1.parts.length q2)).setCell ⟨g,5,none⟩ (.slice Dm x.1.params.length q3)).heap.size) (fun b hb=>⟨⟨hb.2.imp_right (fun h=>by have h2:=HL2.out;omega),by simpa [World.setCell] using hb.1⟩,six_heap (by have h2:=HL2.out;have:=HG.out;rcases hb.2 with h|h<;>omega)⟩) _ _ HT.out)
   have X4:((((((w3.setCell ⟨g,0,none⟩ (.int .i64 x.1.kind)).setCell ⟨g,1,none⟩ (.string x.1.name)).setCell ⟨g,2,none⟩ (.slice Df x.1.faces.length q0)).setCell ⟨g,3,none⟩ (.slice Dx x.1.fields.length q1)).setCell ⟨g,4,none⟩ (.slice Dp x.1.parts.length q2)).setCell ⟨g,5,none⟩ (.slice Dm x.1.params.length q3)).heap[w.heap.size]? = _:=(six_heap (by omega)).trans X3.out.box
   have R4:((((((w3.setCell ⟨g,0,none⟩ (.int .i64 x.1.kind)).setCell ⟨g,1,none⟩ (.string x.1.name)).setCell ⟨g,2,none⟩ (.slice Df x.1.faces.length q0)).setCell ⟨g,3,none⟩ (.slice Dx x.1.fields.length q1)).setCell ⟨g,4,none⟩ (.slice Dp x.1.parts.length q2)).setCell ⟨g,5,none⟩ (.slice Dm x.1.params.length q3)).heap[w.heap.size+1]? = _:=(six_heap (by omega)).trans X3.out.res
   generalize ((((((w3.setCell ⟨g,0,none⟩ (.int .i64 x.1.kind)).setCell ⟨g,1,none⟩ (.string x.1.name)).setCell ⟨g,2,none⟩ (.slice Df x.1.faces.length q0)).setCell ⟨g,3,none⟩ (.slice Dx x.1.fields.length q1)).setCell ⟨g,4,none⟩ (.slice Dp x.1.parts.length q2)).setCell ⟨g,5,none⟩ (.slice Dm x.1.params.length q3))=w4 at Y4 B4 T4 X4 R4 ⊢
   obtain ⟨x0,x1,x2,x3⟩:=four_cells X4
   obtain ⟨⟨y0,y1,y2,y3,y4,y5⟩,_⟩:=six_cells Y4
   have M4:=Hd (HM0.out.kept (row:=none) (grown_of B4.out) (by simp))
   have hkey:=WideMaps.keyOf_string_mk (P:=Tryz.prog) Tryz.underlying9 HN.out
   have HMAX:ents.length < maxLen:=by
    have h1:=nodup_le (L:=n :: ents) (K:=KS) (List.nodup_cons.2 ⟨HNE.out,HND.out.1⟩) (fun s hs=>(List.mem_cons.1 hs).elim (fun h=>h ▸ HK.out.1) (HND.out.2 s))
    have h2:=HK.out.2.1
    rw [List.length_cons] at h1
    omega
   have HY4:=Hd Y4
   have HX4:=Hd X4
   have HR4:=Hd R4
   clear Y4 X4 R4 Y3 X3 HT
   go_wp2_with (at_mapUpdate;refine wpList_mapUpdate_own _ rfl _ _ _ 148 rfl 9 37 (Maps.string_keyed Tryz.underlying9) Tryz.underlying148 Rh M ents.length m rfl M4.out HMAX _ _ _ rfl rfl hkey (.held (.agg #[.int .i64 x.1.kind,.string x.1.name,.slice Df x.1.faces.length q0,.slice Dx x.1.fields.length q1,.slice Dp x.1.parts.length q2,.slice Dm x.1.params.length q3])) [] rfl ?_;intro w5 hm5 hg5;have HM5:=Hd hm5;have HG5:=Hd hg5;have Y5:=(hg5.block g (Array.getElem?_eq_some_iff.1 HY4.out).1 (fun e=>by injection e;omega)).trans HY4.out;have R5:=(hg5.block (w.heap.size+1) (Array.getElem?_eq_some_iff.1 HR4.out).1 (fun e=>by injection e;omega)).trans HR4.out;obtain ⟨⟨z0,z1,z2,z3,z4,z5⟩,_⟩:=six_cells Y5;obtain ⟨⟨r0,r1,r2,r3,r4,r5⟩,v0,v1,v2,v3,v4,v5⟩:=six_cells R5;have HR5:=Hd R5;clear hm5 hg5 x0 x1 x2 x3 y0 y1 y2 y3 y4 y5 R5 Y5)
   refine ret_dfn rfl rfl rfl (six_set HR5.out) ?_
   have M6:MoX M w _:=six_mo (c0:=.int .i64 x.1.kind) (c1:=.string x.1.name) (c2:=.slice Df x.1.faces.length q0) (c3:=.slice Dx x.1.fields.length q1) (c4:=.slice Dp x.1.parts.length q2) (c5:=.slice Dm x.1.params.length q3) (b:=w.heap.size+1) ((MoX.of_below B4.out).grown HG5.out) (Nat.le_succ _)
   have hs4:=B4.out.size
   have hs5:=HG5.out.size
   have T6:=TS.keep (w':=((((((w5.setCell ⟨w.heap.size+1,0,none⟩ (.int .i64 x.1.kind)).setCell ⟨w.heap.size+1,1,none⟩ (.string x.1.name)).setCell ⟨w.heap.size+1,2,none⟩ (.slice Df x.1.faces.length q0)).setCell ⟨w.heap.size+1,3,none⟩ (.slice Dx x.1.fields.length q1)).setCell ⟨w.heap.size+1,4,none⟩ (.slice Dp x.1.parts.length q2)).setCell ⟨w.heap.size+1,5,none⟩ (.slice Dm x.1.params.length q3))) (P':=fun b=>b < ((((((w5.setCell ⟨w.heap.size+1,0,none⟩ (.int .i64 x.1.kind)).setCell ⟨w.heap.size+1,1,none⟩ (.string x.1.name)).setCell ⟨w.heap.size+1,2,none⟩ (.slice Df x.1.faces.length q0)).setCell ⟨w.heap.size+1,3,none⟩ (.slice Dx x.1.fields.length q1)).setCell ⟨w.heap.size+1,4,none⟩ (.slice Dp x.1.parts.length q2)).setCell ⟨w.heap.size+1,5,none⟩ (.slice Dm x.1.params.length q3)).heap.size∧¬ X b) (fun b hb=>by
    obtain ⟨h1,h2⟩:=hb
    have hXb : ¬ X b:=fun h=>by
     have:=HX.out b h
     have hMx:=HK.out.2.2
     rcases h1 with h1|h1
     · exact HXB.out b h1 h
     · omega
    refine ⟨⟨by simp [World.setCell];omega,hXb⟩,(six_heap (by rcases h1 with h1|h1<;>omega)).trans (HG5.out.block b h2 (fun e=>by injection e with e;exact hXb (e ▸ HK.out.2.2)))⟩) _ _ T4.out
   unfold FoundC
   rw [HXE.out]
   refine ⟨_,_,_,_,_,_,rfl,T6,M6,n :: ents,_,?_,List.nodup_cons.2 ⟨HNE.out,HND.out.1⟩,fun s hs=>(List.mem_cons.1 hs).elim (fun h=>h ▸ HK.out.1) (HND.out.2 s),HP.out _ (HD.out.keep M6.size (fun b h1 h2=>M6.block b h1 (fun e=>h2 (e ▸ HK.out.2.2)))) T6⟩
   exact HM5.out.kept (row:=some (w.heap.size+1)) (grown_six _ _) (fun e=>by injection e;omega)
 · have HT:=Hd hT
   obtain ⟨Df,q0,Dx,q1,Dp,q2,Dm,q3,e,_⟩:=defn_cells hT
   simp only [List.cons.injEq,and_true] at e
   obtain ⟨rfl,rfl,rfl,rfl,rfl,rfl⟩:=e
   clear hT
   obtain ⟨x,ok⟩:=x
   dsimp only at *
   go_upto_region 2 with fail
   have B2:=Hd (dbelow_new w1 (.cells #[.int .i64 x.kind,.string x.name,.slice Df x.faces.length q0,.slice Dx x.fields.length q1,.slice Dp x.parts.length q2,.slice Dm x.params.length q3] 37))
   have Y2:=heap_alloc_new w1 (.cells #[.int .i64 x.kind,.string x.name,.slice Df x.faces.length q0,.slice Dx x.fields.length q1,.slice Dp x.parts.length q2,.slice Dm x.params.length q3] 37)
   generalize w1.alloc (.cells #[.int .i64 x.kind,.string x.name,.slice Df x.faces.length q0,.slice Dx x.fields.length q1,.slice Dp x.parts.length q2,.slice Dm x.params.length q3] 37)=w2 at B2 Y2 ⊢
   have X2:=Hd (X0.out.next B2.out)
   generalize w1.heap.size=g at Y2 ⊢
   obtain ⟨⟨y0,y1,y2,y3,y4,y5⟩,_⟩:=six_cells Y2
   obtain ⟨⟨z0,z1,z2,z3,z4,z5⟩,v0,v1,v2,v3,v4,v5⟩:=six_cells X2.out.res
   clear Y2 x0 x1 x2 x3 hrun
   go_wp2_with fail
   refine ret_dfn rfl rfl rfl (six_set X2.out.res) ?_
   have B4:=six_low (c0:=.int .i64 x.kind) (c1:=.string x.name) (c2:=.slice Df x.faces.length q0) (c3:=.slice Dx x.fields.length q1) (c4:=.slice Dp x.parts.length q2) (c5:=.slice Dm x.params.length q3) (b:=w.heap.size+1) X2.out.low (Nat.le_succ _)
   unfold FoundC
   rw [HXE.out]
   exact ⟨_,_,_,_,_,_,rfl,TS.keep (P:=fun b=>b < w.heap.size∧¬ X b) (fun b hb=>⟨⟨Nat.lt_of_lt_of_le hb.1 B4.size,hb.2⟩,B4.block b hb.1⟩) _ _ HT.out,MoX.of_below B4,MOK.low ⟨ents,m,HM0.out,HND.out.1,HND.out.2,HD.out⟩ B4⟩
end Go.Proofs.YtaekdfcpbepepaaGreatDoor
