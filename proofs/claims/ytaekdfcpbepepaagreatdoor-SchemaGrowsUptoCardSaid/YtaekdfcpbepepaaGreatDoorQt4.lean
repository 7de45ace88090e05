/- slices.Clone over rows of any kind. (gen_clone.py wrote it.) -/
import Derived.Test.YtaekdfcpbepepaaGreatDoorQt3
set_option maxRecDepth 100000
set_option maxHeartbeats 4000000
namespace Go.Proofs.YtaekdfcpbepepaaGreatDoor
open Go.RowKit
def oneS:TrS→Bool
 | .nil=>true
 | .cons (.one v) t=>v.oneCell' && oneS t
 | .cons (.row _) t=>oneS t
theorem one_ts {w:World} {P:Nat→Prop} : ∀ {s:TrS} {cs:List Value},oneS s=true→TS w P s cs→∀ u,u ∈ cs→u.oneCell'=true
 | .nil,cs,_,h=>fun u hu=>by unfold TS at h;subst h;simp at hu
 | .cons (.one v) t,cs,h1,h=>fun u hu=>by
   unfold TS at h
   obtain ⟨c,ys,rfl,ha,hb⟩:=h
   rw [oneS,Bool.and_eq_true] at h1
   unfold TP at ha
   rcases List.mem_cons.1 hu with rfl|hu
   · rw [ha.1];exact h1.1
   · exact one_ts h1.2 hb u hu
 | .cons (.row r) t,cs,h1,h=>fun u hu=>by
   unfold TS at h
   obtain ⟨c,ys,rfl,ha,hb⟩:=h
   rw [oneS] at h1
   unfold TP at ha
   obtain ⟨A,k,e,_⟩:=ha
   rcases List.mem_cons.1 hu with rfl|hu
   · rw [e];rfl
   · exact one_ts h1 hb u hu
theorem row_news {w:World} {P:Nat→Prop} {b:Nat} : ∀ {l:TrL} {o:Nat},RowT w P l (some ⟨b,o,none⟩)→∃ xs,TLV w P l xs∧∀ j u,xs[j]? = some u→w.cell? ⟨b,o+j,none⟩=some u
 | .nil,o,_=>⟨[],rfl,fun j u h=>by simp at h⟩
 | .cons s t,o,h=>by
   unfold RowT at h
   obtain ⟨b',o',cs,e,_,hc,h1,h2⟩:=h
   have e:=Option.some.inj e
   injection e with e1 e2 _
   subst e1 e2
   obtain ⟨xs,h3,h4⟩:=row_news h2
   refine ⟨cs++xs,⟨cs,xs,rfl,h1,h3⟩,fun j u hj=>?_⟩
   by_cases hlt:j < cs.length
   · rw [List.getElem?_append_left hlt] at hj
     exact hc j u hj
   · rw [List.getElem?_append_right (by omega)] at hj
     have:=h4 (j - cs.length) u hj
     rwa [← h1.len,show o+cs.length+(j - cs.length)=o+j by omega] at this
theorem tlv_len {w:World} {P:Nat→Prop} {k:Nat} {α:Type} {f:α→TrS} (hk:∀ a,(f a).len=k):∀ {l:List α} {xs:List Value},TLV w P (rowOf f l) xs→xs.length=l.length*k
 | [],xs,h=>by
   have:xs=[]:=h
   subst this;simp
 | a :: t,xs,h=>by
   obtain ⟨cs,ys,rfl,h1,h2⟩:=h
   rw [List.length_append,h1.len,hk,tlv_len hk h2,List.length_cons,Nat.succ_mul,Nat.add_comm]
theorem tlv_one {w:World} {P:Nat→Prop} {α:Type} {f:α→TrS} (hk:∀ a,oneS (f a)=true):∀ {l:List α} {xs:List Value},TLV w P (rowOf f l) xs→∀ u,u ∈ xs→u.oneCell'=true
 | [],xs,h=>fun u hu=>by
   have:xs=[]:=h
   subst this;simp at hu
 | a :: t,xs,h=>fun u hu=>by
   obtain ⟨cs,ys,rfl,h1,h2⟩:=h
   rcases List.mem_append.1 hu with hu|hu
   · exact one_ts (hk a) h1 u hu
   · exact tlv_one hk h2 u hu
theorem row_some {w:World} {P:Nat→Prop} {α:Type} {f:α→TrS} {a:α} {t:List α} {A:Option Addr} (h:RowT w P (rowOf f (a :: t)) A):∃ b o,A=some ⟨b,o,none⟩:=by
 rw [rowOf] at h
 unfold RowT at h
 obtain ⟨b,o,cs,e,_⟩:=h
 exact ⟨b,o,e⟩
def Cloned (ty:TypeId) (k:Nat) (l:TrL) (n:Nat) (P:Nat→Prop) (w:World) (e:Ending) (w':World):Prop:=
 ∃ V xs,e=.returned V∧w'.ownsRow w.heap.size ty k V n xs∧TLV w' P l xs∧Below w.heap.size w w'
theorem info_of {t:TypeId} {k b:Nat} (h:((Tryz.prog.info? t).map fun i=>(i.zero.map (·.cells.size),i.size,i.bytes))=some (some k,k,b)):∃ i z,Tryz.prog.info? t=some i∧i.zero=some z∧i.size=k∧i.bytes=b∧z.cells.size=k:=by
 cases hi:Tryz.prog.info? t with
 | none=>rw [hi] at h;cases h
 | some i =>
   rw [hi] at h
   cases hz:i.zero with
   | none=>simp [hz] at h
   | some z =>
     simp [hz] at h
     exact ⟨i,z,rfl,hz,h.2.1,h.2.2,h.1⟩
theorem run_append_empty {P:Program} {w:World} (t ty e:TypeId) (i:TypeInfo) (ht:P.underlying t=some (.slice e)) (hi:P.info? e=some i) (g cap c:Nat) (x:Option Addr) :
  (Builtin.append_ #[t,t] ty #[.slice (some ⟨g,0,none⟩) 0 cap,.slice x 0 c]).run P w=.ok (.slice (some ⟨g,0,none⟩) 0 cap) w:=by
 cases x<;>simp [Builtin.append_,run_underlying ht,sizeOf,typeInfo,hi,Builtin.lenOf,Builtin.firstCells,storeCells,loadCells,loadCellsFrom]
theorem row_lt {w:World} {P:Nat→Prop} {b o:Nat} {s:TrS} {t:TrL} (h:RowT w P (.cons s t) (some ⟨b,o,none⟩)):P b:=by
 unfold RowT at h
 obtain ⟨b',o',cs,e,hb,_⟩:=h
 have e:=Option.some.inj e
 injection e with e1 _ _
 subst e1
 exact hb
theorem tlvM_len {w:World} {P:Nat→Prop} : ∀ {l:VM} {xs:List Value},TLV w P (encM l) xs→xs.length=l.len*6
 | .nil,xs,h=>by
   rw [encM] at h
   have:xs=[]:=h
   subst this;rfl
 | .cons nm v t,xs,h=>by
   rw [encM] at h
   obtain ⟨cs,ys,rfl,h1,h2⟩:=h
   rw [List.length_append,h1.len,TrS.len,encV_len,tlvM_len h2,VM.len,Nat.succ_mul,Nat.add_comm]
theorem oneV (v:VT):oneS (encV v)=true:=by cases v;simp [oneS,encV,Value.oneCell']
theorem tlvM_one {w:World} {P:Nat→Prop} : ∀ {l:VM} {xs:List Value},TLV w P (encM l) xs→∀ u,u ∈ xs→u.oneCell'=true
 | .nil,xs,h=>fun u hu=>by
   rw [encM] at h
   have:xs=[]:=h
   subst this;simp at hu
 | .cons nm v t,xs,h=>fun u hu=>by
   rw [encM] at h
   obtain ⟨cs,ys,rfl,h1,h2⟩:=h
   rcases List.mem_append.1 hu with hu|hu
   · exact one_ts (by rw [oneS,oneV];rfl) h1 u hu
   · exact tlvM_one h2 u hu
theorem own_lit0 (w:World) (ty:TypeId) (k:Nat):(w.alloc (.cells #[] ty)).ownsRow w.heap.size ty k (.slice (some ⟨w.heap.size,0,none⟩) 0 0) 0 []:=
 World.ownsRow_lit w #[] 0 (Nat.le_refl _) (by decide) (by simp)
theorem cinfo_str:∃ i z,Tryz.prog.info? 9=some i∧i.zero=some z∧i.size=1∧i.bytes=16∧z.cells.size=1:=info_of (by kernel_rfl)
theorem len_str (x:ByteArray):(encStr x).len=1:=by unfold encStr;simp only [TrS.len]
theorem one_str (x:ByteArray):oneS (encStr x)=true:=by unfold encStr;simp [oneS,Value.oneCell']
theorem clone_str (l:List ByteArray) (A:Option Addr) (c:Nat) (w:World) (P:Nat→Prop) (hP:∀ b,P b→b < w.heap.size) (hz:l.length*16≤140737488355328) (hR:RowT w P (rowOf encStr l) A) :
   Calls Tryz.prog 76 #[.slice A l.length c] w (Cloned 9 1 (rowOf encStr l) l.length P w):=by
 obtain ⟨i0,z,hi,hz0,hz1,hz2,hz3⟩:=cinfo_str
 have hnil:=Lib.run_eql_slice_nil (P:=Tryz.prog)
 cases l with
 | nil =>
   clear hR hz
   cases A with
   | none =>
     have hq:=fun W=>hnil W 32 9 none 0 c 0 0 Tryz.underlying32
     clear hnil
     go_enter Tryz.func76,Tryz.ntmps76
     go_wp2_with fail
     go_ret
     exact ⟨_,[],rfl,World.ownsRow_nil _ _ _ _,rfl,Below.refl _ _⟩
   | some a =>
     have hq:=fun W=>hnil W 32 9 (some a) 0 c 0 0 Tryz.underlying32
     have hap:=fun W ty g=>@run_append_empty Tryz.prog W 32 ty 9 i0 Tryz.underlying32 hi g 0 c (some a)
     clear hnil
     go_enter Tryz.func76,Tryz.ntmps76
     go_wp2_with fail
     go_ret
     exact ⟨_,[],rfl,own_lit0 _ _ _,rfl,dbelow_new _ _⟩
 | cons a t =>
   obtain ⟨b,o,rfl⟩:∃ b o,A=some ⟨b,o,none⟩:=row_some hR
   obtain ⟨xs,hx,hc⟩:=row_news (by exact hR)
   obtain ⟨L,hL⟩:∃ L,L=(a :: t).length:=⟨_,rfl⟩
   have hlen:xs.length=L*1:=by rw [hL];exact tlv_len len_str hx
   have hone:∀ u,u ∈ xs→u.oneCell'=true:=tlv_one one_str hx
   rw [← hL] at hz ⊢
   have hLp:0 < L:=by rw [hL];simp
   have HL:=Hd hL
   have HX:=Hd hx
   have HC:=Hd hc
   have hblt:P b:=row_lt (by rw [rowOf] at hR;exact hR)
   have hbw:=hP b hblt
   have HO:=Hd hone
   have HN:=Hd hlen
   have hq:=fun W=>hnil W 32 9 (some ⟨b,o,none⟩) L c 0 0 Tryz.underlying32
   have O0:=Hd (own_lit0 w 9 1)
   have B0:=Hd (dbelow_new w (.cells #[] 9))
   clear hnil hR hx hc hL hone hlen
   go_enter Tryz.func76,Tryz.ntmps76
   go_wp2_with (at_builtin;go_loud (refine wpList_append_lies _ rfl _ _ 32 rfl w.heap.size 9 i0 z 1 16 Tryz.underlying32 hi hz0 hz1 hz2 hz3 (by decide) _ 0 [] rfl O0.out _ L c xs rfl HN.out (fun j u hj=>by rw [add_at];exact (B0.out.cell (p:=⟨b,o+j,none⟩) hbw).trans (HC.out j u hj)) HO.out hLp (by unfold maxLen;omega) (by omega) (by simp) _ rfl ?_;intro gg cap2 w4 hown4 hgrow hat hlt4;have HG4:=Hd hgrow;have HO4:=Hd hown4;have HT4:=Hd hat;clear hgrow hown4 hat))
   go_ret
   have B4:=below_grown (B:=w.heap.size) B0.out HG4.out B0.out.size (fun k hk=>by have e:some w.heap.size=some k:=hk;injection e with e;omega)
   exact ⟨_,xs,rfl,by have h:=HO4.out;rw [Nat.zero_add] at h;exact h,TLV.keep (fun k hk=>⟨hk,B4.block k (hP k hk)⟩) HX.out,B4⟩
theorem cinfo_par:∃ i z,Tryz.prog.info? 60=some i∧i.zero=some z∧i.size=10∧i.bytes=136∧z.cells.size=10:=info_of (by kernel_rfl)
theorem len_par (x:VarT):(encVar x).len=10:=by unfold encVar;simp only [TrS.len,encV_len]
theorem one_par (x:VarT):oneS (encVar x)=true:=by unfold encVar;obtain ⟨_,_,_,_,_,v⟩:=x;cases v;simp [oneS,encV,Value.oneCell']
theorem clone_par (l:List VarT) (A:Option Addr) (c:Nat) (w:World) (P:Nat→Prop) (hP:∀ b,P b→b < w.heap.size) (hz:l.length*136≤140737488355328) (hR:RowT w P (rowOf encVar l) A) :
   Calls Tryz.prog 78 #[.slice A l.length c] w (Cloned 60 10 (rowOf encVar l) l.length P w):=by
 obtain ⟨i0,z,hi,hz0,hz1,hz2,hz3⟩:=cinfo_par
 have hnil:=Lib.run_eql_slice_nil (P:=Tryz.prog)
 cases l with
 | nil =>
   clear hR hz
   cases A with
   | none =>
     have hq:=fun W=>hnil W 35 60 none 0 c 0 0 Tryz.underlying35
     clear hnil
     go_enter Tryz.func78,Tryz.ntmps78
     go_wp2_with fail
     go_ret
     exact ⟨_,[],rfl,World.ownsRow_nil _ _ _ _,rfl,Below.refl _ _⟩
   | some a =>
     have hq:=fun W=>hnil W 35 60 (some a) 0 c 0 0 Tryz.underlying35
     have hap:=fun W ty g=>@run_append_empty Tryz.prog W 35 ty 60 i0 Tryz.underlying35 hi g 0 c (some a)
     clear hnil
     go_enter Tryz.func78,Tryz.ntmps78
     go_wp2_with fail
     go_ret
     exact ⟨_,[],rfl,own_lit0 _ _ _,rfl,dbelow_new _ _⟩
 | cons a t =>
   obtain ⟨b,o,rfl⟩:∃ b o,A=some ⟨b,o,none⟩:=row_some hR
   obtain ⟨xs,hx,hc⟩:=row_news (by exact hR)
   obtain ⟨L,hL⟩:∃ L,L=(a :: t).length:=⟨_,rfl⟩
   have hlen:xs.length=L*10:=by rw [hL];exact tlv_len len_par hx
   have hone:∀ u,u ∈ xs→u.oneCell'=true:=tlv_one one_par hx
   rw [← hL] at hz ⊢
   have hLp:0 < L:=by rw [hL];simp
   have HL:=Hd hL
   have HX:=Hd hx
   have HC:=Hd hc
   have hblt:P b:=row_lt (by rw [rowOf] at hR;exact hR)
   have hbw:=hP b hblt
   have HO:=Hd hone
   have HN:=Hd hlen
   have hq:=fun W=>hnil W 35 60 (some ⟨b,o,none⟩) L c 0 0 Tryz.underlying35
   have O0:=Hd (own_lit0 w 60 10)
   have B0:=Hd (dbelow_new w (.cells #[] 60))
   clear hnil hR hx hc hL hone hlen
   go_enter Tryz.func78,Tryz.ntmps78
   go_wp2_with (at_builtin;go_loud (refine wpList_append_lies _ rfl _ _ 35 rfl w.heap.size 60 i0 z 10 136 Tryz.underlying35 hi hz0 hz1 hz2 hz3 (by decide) _ 0 [] rfl O0.out _ L c xs rfl HN.out (fun j u hj=>by rw [add_at];exact (B0.out.cell (p:=⟨b,o+j,none⟩) hbw).trans (HC.out j u hj)) HO.out hLp (by unfold maxLen;omega) (by omega) (by simp) _ rfl ?_;intro gg cap2 w4 hown4 hgrow hat hlt4;have HG4:=Hd hgrow;have HO4:=Hd hown4;have HT4:=Hd hat;clear hgrow hown4 hat))
   go_ret
   have B4:=below_grown (B:=w.heap.size) B0.out HG4.out B0.out.size (fun k hk=>by have e:some w.heap.size=some k:=hk;injection e with e;omega)
   exact ⟨_,xs,rfl,by have h:=HO4.out;rw [Nat.zero_add] at h;exact h,TLV.keep (fun k hk=>⟨hk,B4.block k (hP k hk)⟩) HX.out,B4⟩
theorem cinfo_fld:∃ i z,Tryz.prog.info? 46=some i∧i.zero=some z∧i.size=6∧i.bytes=96∧z.cells.size=6:=info_of (by kernel_rfl)
theorem len_fld (x:FieldT):(encField x).len=6:=by unfold encField;simp only [TrS.len]
theorem one_fld (x:FieldT):oneS (encField x)=true:=by unfold encField;simp [oneS,Value.oneCell']
theorem clone_fld (l:List FieldT) (A:Option Addr) (c:Nat) (w:World) (P:Nat→Prop) (hP:∀ b,P b→b < w.heap.size) (hz:l.length*96≤140737488355328) (hR:RowT w P (rowOf encField l) A) :
   Calls Tryz.prog 136 #[.slice A l.length c] w (Cloned 46 6 (rowOf encField l) l.length P w):=by
 obtain ⟨i0,z,hi,hz0,hz1,hz2,hz3⟩:=cinfo_fld
 have hnil:=Lib.run_eql_slice_nil (P:=Tryz.prog)
 cases l with
 | nil =>
   clear hR hz
   cases A with
   | none =>
     have hq:=fun W=>hnil W 34 46 none 0 c 0 0 Tryz.underlying34
     clear hnil
     go_enter Tryz.func136,Tryz.ntmps136
     go_wp2_with fail
     go_ret
     exact ⟨_,[],rfl,World.ownsRow_nil _ _ _ _,rfl,Below.refl _ _⟩
   | some a =>
     have hq:=fun W=>hnil W 34 46 (some a) 0 c 0 0 Tryz.underlying34
     have hap:=fun W ty g=>@run_append_empty Tryz.prog W 34 ty 46 i0 Tryz.underlying34 hi g 0 c (some a)
     clear hnil
     go_enter Tryz.func136,Tryz.ntmps136
     go_wp2_with fail
     go_ret
     exact ⟨_,[],rfl,own_lit0 _ _ _,rfl,dbelow_new _ _⟩
 | cons a t =>
   obtain ⟨b,o,rfl⟩:∃ b o,A=some ⟨b,o,none⟩:=row_some hR
   obtain ⟨xs,hx,hc⟩:=row_news (by exact hR)
   obtain ⟨L,hL⟩:∃ L,L=(a :: t).length:=⟨_,rfl⟩
   have hlen:xs.length=L*6:=by rw [hL];exact tlv_len len_fld hx
   have hone:∀ u,u ∈ xs→u.oneCell'=true:=tlv_one one_fld hx
   rw [← hL] at hz ⊢
   have hLp:0 < L:=by rw [hL];simp
   have HL:=Hd hL
   have HX:=Hd hx
   have HC:=Hd hc
   have hblt:P b:=row_lt (by rw [rowOf] at hR;exact hR)
   have hbw:=hP b hblt
   have HO:=Hd hone
   have HN:=Hd hlen
   have hq:=fun W=>hnil W 34 46 (some ⟨b,o,none⟩) L c 0 0 Tryz.underlying34
   have O0:=Hd (own_lit0 w 46 6)
   have B0:=Hd (dbelow_new w (.cells #[] 46))
   clear hnil hR hx hc hL hone hlen
   go_enter Tryz.func136,Tryz.ntmps136
   go_wp2_with (at_builtin;go_loud (refine wpList_append_lies _ rfl _ _ 34 rfl w.heap.size 46 i0 z 6 96 Tryz.underlying34 hi hz0 hz1 hz2 hz3 (by decide) _ 0 [] rfl O0.out _ L c xs rfl HN.out (fun j u hj=>by rw [add_at];exact (B0.out.cell (p:=⟨b,o+j,none⟩) hbw).trans (HC.out j u hj)) HO.out hLp (by unfold maxLen;omega) (by omega) (by simp) _ rfl ?_;intro gg cap2 w4 hown4 hgrow hat hlt4;have HG4:=Hd hgrow;have HO4:=Hd hown4;have HT4:=Hd hat;clear hgrow hown4 hat))
   go_ret
   have B4:=below_grown (B:=w.heap.size) B0.out HG4.out B0.out.size (fun k hk=>by have e:some w.heap.size=some k:=hk;injection e with e;omega)
   exact ⟨_,xs,rfl,by have h:=HO4.out;rw [Nat.zero_add] at h;exact h,TLV.keep (fun k hk=>⟨hk,B4.block k (hP k hk)⟩) HX.out,B4⟩
theorem cinfo_dir:∃ i z,Tryz.prog.info? 83=some i∧i.zero=some z∧i.size=2∧i.bytes=40∧z.cells.size=2:=info_of (by kernel_rfl)
theorem len_dir (x:DirT):(encD x).len=2:=by unfold encD;simp only [TrS.len]
theorem one_dir (x:DirT):oneS (encD x)=true:=by unfold encD;simp [oneS,Value.oneCell']
theorem clone_dir (l:List DirT) (A:Option Addr) (c:Nat) (w:World) (P:Nat→Prop) (hP:∀ b,P b→b < w.heap.size) (hz:l.length*40≤140737488355328) (hR:RowT w P (rowOf encD l) A) :
   Calls Tryz.prog 139 #[.slice A l.length c] w (Cloned 83 2 (rowOf encD l) l.length P w):=by
 obtain ⟨i0,z,hi,hz0,hz1,hz2,hz3⟩:=cinfo_dir
 have hnil:=Lib.run_eql_slice_nil (P:=Tryz.prog)
 cases l with
 | nil =>
   clear hR hz
   cases A with
   | none =>
     have hq:=fun W=>hnil W 44 83 none 0 c 0 0 Tryz.underlying44
     clear hnil
     go_enter Tryz.func139,Tryz.ntmps139
     go_wp2_with fail
     go_ret
     exact ⟨_,[],rfl,World.ownsRow_nil _ _ _ _,rfl,Below.refl _ _⟩
   | some a =>
     have hq:=fun W=>hnil W 44 83 (some a) 0 c 0 0 Tryz.underlying44
     have hap:=fun W ty g=>@run_append_empty Tryz.prog W 44 ty 83 i0 Tryz.underlying44 hi g 0 c (some a)
     clear hnil
     go_enter Tryz.func139,Tryz.ntmps139
     go_wp2_with fail
     go_ret
     exact ⟨_,[],rfl,own_lit0 _ _ _,rfl,dbelow_new _ _⟩
 | cons a t =>
   obtain ⟨b,o,rfl⟩:∃ b o,A=some ⟨b,o,none⟩:=row_some hR
   obtain ⟨xs,hx,hc⟩:=row_news (by exact hR)
   obtain ⟨L,hL⟩:∃ L,L=(a :: t).length:=⟨_,rfl⟩
   have hlen:xs.length=L*2:=by rw [hL];exact tlv_len len_dir hx
   have hone:∀ u,u ∈ xs→u.oneCell'=true:=tlv_one one_dir hx
   rw [← hL] at hz ⊢
   have hLp:0 < L:=by rw [hL];simp
   have HL:=Hd hL
   have HX:=Hd hx
   have HC:=Hd hc
   have hblt:P b:=row_lt (by rw [rowOf] at hR;exact hR)
   have hbw:=hP b hblt
   have HO:=Hd hone
   have HN:=Hd hlen
   have hq:=fun W=>hnil W 44 83 (some ⟨b,o,none⟩) L c 0 0 Tryz.underlying44
   have O0:=Hd (own_lit0 w 83 2)
   have B0:=Hd (dbelow_new w (.cells #[] 83))
   clear hnil hR hx hc hL hone hlen
   go_enter Tryz.func139,Tryz.ntmps139
   go_wp2_with (at_builtin;go_loud (refine wpList_append_lies _ rfl _ _ 44 rfl w.heap.size 83 i0 z 2 40 Tryz.underlying44 hi hz0 hz1 hz2 hz3 (by decide) _ 0 [] rfl O0.out _ L c xs rfl HN.out (fun j u hj=>by rw [add_at];exact (B0.out.cell (p:=⟨b,o+j,none⟩) hbw).trans (HC.out j u hj)) HO.out hLp (by unfold maxLen;omega) (by omega) (by simp) _ rfl ?_;intro gg cap2 w4 hown4 hgrow hat hlt4;have HG4:=Hd hgrow;have HO4:=Hd hown4;have HT4:=Hd hat;clear hgrow hown4 hat))
   go_ret
   have B4:=below_grown (B:=w.heap.size) B0.out HG4.out B0.out.size (fun k hk=>by have e:some w.heap.size=some k:=hk;injection e with e;omega)
   exact ⟨_,xs,rfl,by have h:=HO4.out;rw [Nat.zero_add] at h;exact h,TLV.keep (fun k hk=>⟨hk,B4.block k (hP k hk)⟩) HX.out,B4⟩
theorem cinfo_mem:∃ i z,Tryz.prog.info? 97=some i∧i.zero=some z∧i.size=6∧i.bytes=96∧z.cells.size=6:=info_of (by kernel_rfl)
theorem clone_mem (l:VM) (A:Option Addr) (c:Nat) (w:World) (P:Nat→Prop) (hP:∀ b,P b→b < w.heap.size) (hz:l.len*96≤140737488355328) (hR:RowT w P (encM l) A) :
   Calls Tryz.prog 140 #[.slice A l.len c] w (Cloned 97 6 (encM l) l.len P w):=by
 obtain ⟨i0,z,hi,hz0,hz1,hz2,hz3⟩:=cinfo_mem
 have hnil:=Lib.run_eql_slice_nil (P:=Tryz.prog)
 cases l with
 | nil =>
   rw [show VM.nil.len=0 from rfl]
   clear hR hz
   cases A with
   | none =>
     have hq:=fun W=>hnil W 56 97 none 0 c 0 0 Tryz.underlying56
     clear hnil
     go_enter Tryz.func140,Tryz.ntmps140
     go_wp2_with fail
     go_ret
     exact ⟨_,[],rfl,World.ownsRow_nil _ _ _ _,by rw [encM];rfl,Below.refl _ _⟩
   | some a =>
     have hq:=fun W=>hnil W 56 97 (some a) 0 c 0 0 Tryz.underlying56
     have hap:=fun W ty g=>@run_append_empty Tryz.prog W 56 ty 97 i0 Tryz.underlying56 hi g 0 c (some a)
     clear hnil
     go_enter Tryz.func140,Tryz.ntmps140
     go_wp2_with fail
     go_ret
     exact ⟨_,[],rfl,own_lit0 _ _ _,by rw [encM];rfl,dbelow_new _ _⟩
 | cons nm v t =>
   obtain ⟨b,o,rfl⟩:∃ b o,A=some ⟨b,o,none⟩:=by rw [encM] at hR;unfold RowT at hR;obtain ⟨b,o,cs,e,_⟩:=hR;exact ⟨b,o,e⟩
   obtain ⟨xs,hx,hc⟩:=row_news (by exact hR)
   obtain ⟨L,hL⟩:∃ L,L=(VM.cons nm v t).len:=⟨_,rfl⟩
   have hlen:xs.length=L*6:=by rw [hL];exact tlvM_len hx
   have hone:∀ u,u ∈ xs→u.oneCell'=true:=tlvM_one hx
   rw [← hL] at hz ⊢
   have hLp:0 < L:=by rw [hL];simp [VM.len]
   have HL:=Hd hL
   have HX:=Hd hx
   have HC:=Hd hc
   have hblt:P b:=row_lt (by rw [encM] at hR;exact hR)
   have hbw:=hP b hblt
   have HO:=Hd hone
   have HN:=Hd hlen
   have hq:=fun W=>hnil W 56 97 (some ⟨b,o,none⟩) L c 0 0 Tryz.underlying56
   have O0:=Hd (own_lit0 w 97 6)
   have B0:=Hd (dbelow_new w (.cells #[] 97))
   clear hnil hR hx hc hL hone hlen
   go_enter Tryz.func140,Tryz.ntmps140
   go_wp2_with (at_builtin;go_loud (refine wpList_append_lies _ rfl _ _ 56 rfl w.heap.size 97 i0 z 6 96 Tryz.underlying56 hi hz0 hz1 hz2 hz3 (by decide) _ 0 [] rfl O0.out _ L c xs rfl HN.out (fun j u hj=>by rw [add_at];exact (B0.out.cell (p:=⟨b,o+j,none⟩) hbw).trans (HC.out j u hj)) HO.out hLp (by unfold maxLen;omega) (by omega) (by simp) _ rfl ?_;intro gg cap2 w4 hown4 hgrow hat hlt4;have HG4:=Hd hgrow;have HO4:=Hd hown4;have HT4:=Hd hat;clear hgrow hown4 hat))
   go_ret
   have B4:=below_grown (B:=w.heap.size) B0.out HG4.out B0.out.size (fun k hk=>by have e:some w.heap.size=some k:=hk;injection e with e;omega)
   exact ⟨_,xs,rfl,by have h:=HO4.out;rw [Nat.zero_add] at h;exact h,TLV.keep (fun k hk=>⟨hk,B4.block k (hP k hk)⟩) HX.out,B4⟩
end Go.Proofs.YtaekdfcpbepepaaGreatDoor
