/- A schema that comes in, opened: as a plain tree, its rows within the reach, its bulk bounding its size. (gen_openU.py wrote it.) -/
import Derived.Test.YtaekdfcpbepepaaGreatDoorQb28
set_option maxRecDepth 100000
namespace Go.Proofs.YtaekdfcpbepepaaGreatDoor
open Go.ChangeShapes Go.WideShapes Go.ChangeAt Go.RowKit
def szP (p:VarT):Nat:=p.name.size+2+sizeV p.v
def szDr (d:DirT):Nat:=d.1.size+2+sizeM d.2
def szF (f:FieldT):Nat:=f.name.size+2+(f.params.map szP).sum+(f.dirs.map szDr).sum
def szN (s:ByteArray):Nat:=s.size+1
def szD (d:DefnT):Nat:=d.name.size+2+(d.faces.map szN).sum+(d.fields.map szF).sum+(d.parts.map szN).sum+(d.params.map szP).sum
def szS (S:SchT):Nat:=(S.defs.map szD).sum
theorem rowU_opened {H α:Type} {f:α→TrS} {k:Nat} {R:α→DataW H→Prop} {sz:α→Nat} {W:World} {b o:Nat} {T:List Value→Option (DataW H × List MemPlace)} (hk:∀ a,(f a).len=k) (hkp:0 < k) (IH:∀ cs x,T cs=some x→∃ a,TS W (fun b=>b < W.heap.size) (f a) cs∧R a x.1∧sz a≤Rows.uptoBulk x.1):∀ (elems:List (DataW H × List MemPlace)) (j:Nat),
   (∀ i,i < elems.length→(W.cells? 0 ⟨b,o+(j+i)*k,none⟩ k).bind T=elems[i]?) →
   ∃ l:List α,l.length=elems.length∧RowT W (fun b=>b < W.heap.size) (rowOf f l) (some ⟨b,o+j*k,none⟩)∧(∀ a,a ∈ l→∃ x,x ∈ elems∧R a x.1)∧(l.map sz).sum≤Rows.uptoBulkAll (elems.map (·.1))
 | [],j,_=>⟨[],rfl,by rw [rowOf];unfold RowT;trivial,fun a h=>by simp at h,Nat.zero_le _⟩
 | x :: elems,j,h=>by
   have h0:=h 0 (by simp)
   rw [Nat.add_zero] at h0
   obtain ⟨cs,hc,ht⟩:=Option.bind_eq_some_iff.1 (h0.trans rfl)
   obtain ⟨a,ha,hr,hsz⟩:=IH cs x ht
   obtain ⟨hlt,hl,hF⟩:=cells_out hkp hc
   obtain ⟨l,h1,h2,h3,h4⟩:=rowU_opened hk hkp IH elems (j+1) (fun i hi=>by
     have:=h (i+1) (by simp;omega)
     rw [show j+(i+1)=j+1+i by omega] at this
     simpa using this)
   refine ⟨a :: l,by simp [h1],?_,fun a' ha'=>?_,by rw [List.map_cons,List.map_cons,List.sum_cons,Rows.uptoBulkAll];omega⟩
   · rw [rowOf]
     unfold RowT
     refine ⟨b,o+j*k,cs,rfl,hlt,hF,ha,?_⟩
     rw [hk]
     rwa [show o+j*k+k=o+(j+1)*k by rw [Nat.succ_mul];omega]
   · rcases List.mem_cons.1 ha' with rfl|ha'
     · exact ⟨x,List.mem_cons_self ..,hr⟩
     · obtain ⟨y,hy,hr'⟩:=h3 a' ha'
       exact ⟨y,List.mem_cons_of_mem _ hy,hr'⟩
theorem slcU_opened {H α:Type} {enc:TypeId × Value→H} {W:World} {f:α→TrS} {k by_ fuel:Nat} {st et:TypeId} {cv:Value} {x:DataW H × List MemPlace} {R:α→DataW H→Prop} {sz:α→Nat} (hu:Tryz.prog.underlying st=some (.slice et)) (hc:Tryz.prog.cellsOf et=k) (hby:Tryz.prog.bytesOf et=by_) (hk:∀ a,(f a).len=k) (hkp:0 < k)
   (IH:∀ n,n < fuel→∀ cs x,DataW.trod enc Tryz.prog W 0 (fun _=>true) true n et cs=some x→∃ a,TS W (fun b=>b < W.heap.size) (f a) cs∧R a x.1∧sz a≤Rows.uptoBulk x.1)
   (h:DataW.trod enc Tryz.prog W 0 (fun _=>true) true fuel st [cv]=some x):∃ (l:List α) (A:Option Addr) (c:Nat),cv=.slice A l.length c∧l.length≤9223372036854775807∧RowT W (fun b=>b < W.heap.size) (rowOf f l) A ∧
     ((∀ m ∈ x.1.weights Tryz.prog st,m≤reachBytes)→l.length*by_≤140737488355328∧∀ a,a ∈ l→∃ d,R a d∧∀ m ∈ d.weights Tryz.prog et,m≤reachBytes)∧(l.map sz).sum+1≤Rows.uptoBulk x.1:=by
 rcases DataW.trod_slice hu h with ⟨hc,rfl⟩|⟨a,len,cap,elems,rest,n',hn',hcv,rfl,_,hlc,hcm,hel,hat,_⟩
 · simp only [List.cons.injEq,and_true] at hc
   exact ⟨[],none,0,hc,Nat.zero_le _,by rw [rowOf];unfold RowT;trivial,fun _=>⟨by simp,fun a h=>by simp at h⟩,by simp [Rows.uptoBulk]⟩
 · simp only [List.cons.injEq,and_true] at hcv
   subst hel
   rw [hc] at hat
   obtain ⟨b,o,spot⟩:=a
   rcases Nat.eq_zero_or_pos elems.length with hz|hz
   · have he:elems=[]:=List.eq_nil_of_length_eq_zero hz
     subst he
     exact ⟨[],_,cap,hcv,Nat.zero_le _,by rw [rowOf];unfold RowT;trivial,fun _=>⟨by simp,fun a h=>by simp at h⟩,by simp [Rows.uptoBulk]⟩
   · have hsp:spot=none:=by
       have h1:=hat 0 hz
       rw [List.getElem?_eq_getElem hz] at h1
       obtain ⟨cs',hc',_⟩:=Option.bind_eq_some_iff.1 h1
       have h3:=spot_out hkp hc'
       simpa [Addr.add] using h3
     subst hsp
     obtain ⟨l,h1,h2,h3,h5⟩:=rowU_opened (T:=DataW.trod enc Tryz.prog W 0 (fun _=>true) true n' et) (R:=R) (sz:=sz) hk hkp (IH n' (by omega)) elems 0 (fun i hi=>by
       have:=hat i hi
       rwa [add_at,show i*k=(0+i)*k by rw [Nat.zero_add]] at this)
     refine ⟨l,_,cap,by rw [hcv,h1],by rw [h1];exact Nat.le_trans hlc hcm,by rw [Nat.zero_mul,Nat.add_zero] at h2;exact h2,fun hm=>?_,by simp only [Rows.uptoBulk];omega⟩
     simp only [DataW.weights,hu] at hm
     refine ⟨?_,fun a ha=>?_⟩
     · have:=hm _ (List.mem_cons.2 (.inl rfl))
       simp only [List.length_map,hby,reachBytes] at this
       rw [h1]
       have h4:elems.length*by_≤(elems.length+rest.length)*by_:=Nat.mul_le_mul_right _ (Nat.le_add_right _ _)
       omega
     · obtain ⟨y,hy,hr⟩:=h3 a ha
       exact ⟨y.1,hr,fun m h=>hm m (List.mem_cons.2 (.inr (List.mem_append.2 (.inl (weights_all6 (List.mem_map.2 ⟨y,hy,rfl⟩) h)))))⟩
theorem mat_row {w:World} {B:Nat} {m:VM} {A:Option Addr} {c:Nat} (hl:m.len≤9223372036854775807) (h:MAt w B m A 0):RowT w (fun b=>b < B) (encM m) A:=by
 have hv:VAt w B (.mk 7 0 ⟨#[]⟩ .nil m) (.int .i64 7) (.int .i64 0) (.string ⟨#[]⟩) (.slice none 0 0) (.slice A m.len c):=by
  unfold VAt
  exact ⟨rfl,rfl,rfl,by decide,⟨none,0,rfl,Nat.zero_le _,by unfold LAt;trivial⟩,A,c,rfl,hl,h⟩
 obtain ⟨A3,k3,A4,k4,_,_,_,_,e4,ht⟩:=vat_ts hv
 unfold encV at ht
 simp only [TS,TP] at ht
 obtain ⟨_,_,e0,_,_,_,e1,_,_,_,e2,_,_,_,e3,_,_,_,e5,⟨A',k',e6,_,hr⟩,_⟩:=ht
 cases e0
 cases e1
 cases e2
 cases e3
 cases e5
 simp only [Value.slice.injEq] at e4 e6
 obtain ⟨rfl,_⟩:=e4
 obtain ⟨rfl,_⟩:=e6
 exact hr
theorem openU_str1 {H:Type} {enc:TypeId × Value→H} {W:World} (fuel:Nat) (cs:List Value) (x:DataW H × List MemPlace) (h:DataW.trod enc Tryz.prog W 0 (fun _=>true) true fuel 9 cs=some x):∃ s,TS W (fun b=>b < W.heap.size) (encStr s) cs∧True∧szN s≤Rows.uptoBulk x.1:=by
 obtain ⟨t,e0,hy,ht⟩:=DataW.trod_string Tryz.underlying9 h
 refine ⟨t,?_,trivial,by rw [hy];simp [szN,Rows.uptoBulk]⟩
 subst e0
 simp only [encStr,TS,TP]
 exact ⟨_,_,rfl,⟨rfl,ht⟩,rfl⟩
theorem openU_par {H:Type} {enc:TypeId × Value→H} {W:World} (fuel:Nat) (cs:List Value) (x:DataW H × List MemPlace) (h:DataW.trod enc Tryz.prog W 0 (fun _=>true) true fuel 60 cs=some x):∃ a:VarT,TS W (fun b=>b < W.heap.size) (encVar a) cs∧True∧szP a≤Rows.uptoBulk x.1:=by
 obtain ⟨xs,n,rfl,rfl,hl,hxl,hf⟩:=DataW.trod_struct Tryz.underlying60 h
 rw [ocPar] at hl
 obtain ⟨c0,c1,c2,c3,c4,c5,c6,c7,c8,c9,rfl⟩:=list_10 hl
 have f0:DataW.trod enc Tryz.prog W 0 (fun _=>true) true n 9 [c0]=xs[0]?:=by have h':DataW.trod enc Tryz.prog W 0 (fun _=>true) true n 9 (([c0,c1,c2,c3,c4,c5,c6,c7,c8,c9].drop 0).take (Tryz.prog.cellsOf 9))=xs[0]?:=hf 0 _ rfl;rw [ocStr] at h';exact h'
 have f1:DataW.trod enc Tryz.prog W 0 (fun _=>true) true n 43 [c1,c2,c3]=xs[1]?:=by have h':DataW.trod enc Tryz.prog W 0 (fun _=>true) true n 43 (([c0,c1,c2,c3,c4,c5,c6,c7,c8,c9].drop 1).take (Tryz.prog.cellsOf 43))=xs[1]?:=hf 1 _ rfl;rw [ocTy] at h';exact h'
 have f2:DataW.trod enc Tryz.prog W 0 (fun _=>true) true n 4 [c4]=xs[2]?:=by have h':DataW.trod enc Tryz.prog W 0 (fun _=>true) true n 4 (([c0,c1,c2,c3,c4,c5,c6,c7,c8,c9].drop 4).take (Tryz.prog.cellsOf 4))=xs[2]?:=hf 2 _ rfl;rw [ocBool] at h';exact h'
 have f3:DataW.trod enc Tryz.prog W 0 (fun _=>true) true n 58 [c5,c6,c7,c8,c9]=xs[3]?:=by have h':DataW.trod enc Tryz.prog W 0 (fun _=>true) true n 58 (([c0,c1,c2,c3,c4,c5,c6,c7,c8,c9].drop 5).take (Tryz.prog.cellsOf 58))=xs[3]?:=hf 3 _ rfl;rw [ocVal] at h';exact h'
 match xs,hxl with
 | [y0,y1,y2,y3],_ =>
   obtain ⟨nm,e0,hy0,ht0⟩:=DataW.trod_string Tryz.underlying9 (f0.trans rfl);simp only [List.cons.injEq,and_true] at e0;subst e0
   obtain ⟨tn,tl,tm,et0,et1,et2,htn⟩:=open_ty (f1.trans rfl);subst et0 et1 et2
   obtain ⟨has,e2,hy2⟩:=DataW.trod_bool Tryz.underlying4 (f2.trans rfl);simp only [List.cons.injEq,and_true] at e2;subst e2
   obtain ⟨v,d0,d1,d2,d3,d4,ev,hva,_,hsz,_⟩:=value_opened n _ _ (f3.trans rfl)
   obtain ⟨A3,k3,A4,k4,rfl,rfl,rfl,rfl,rfl,hv⟩:=vat_ts hva
   rw [← ev] at hv
   refine ⟨⟨nm,tn,tl,tm,has,v⟩,?_,trivial,?_⟩
   · unfold encVar
     rw [TS];refine ⟨_,_,rfl,by unfold TP;exact ⟨rfl,ht0⟩,?_⟩
     rw [TS];refine ⟨_,_,rfl,by unfold TP;exact ⟨rfl,htn⟩,?_⟩
     rw [TS];refine ⟨_,_,rfl,by unfold TP;exact ⟨rfl,trivial⟩,?_⟩
     rw [TS];refine ⟨_,_,rfl,by unfold TP;exact ⟨rfl,trivial⟩,?_⟩
     rw [TS];exact ⟨_,_,rfl,by unfold TP;exact ⟨rfl,trivial⟩,hv⟩
   · subst hy0
     simp only [szP,Rows.uptoBulk,Rows.uptoBulkAll,List.map_cons,List.map_nil]
     have e:nm.data.toList.length=nm.size:=by simp
     omega
theorem openU_dir {H:Type} {enc:TypeId × Value→H} {W:World} (fuel:Nat) (cs:List Value) (x:DataW H × List MemPlace) (h:DataW.trod enc Tryz.prog W 0 (fun _=>true) true fuel 83 cs=some x):∃ a:DirT,TS W (fun b=>b < W.heap.size) (encD a) cs∧((∀ m ∈ x.1.weights Tryz.prog 83,m≤reachBytes)→a.2.len*96≤140737488355328∧SlimM a.2)∧szDr a≤Rows.uptoBulk x.1:=by
 obtain ⟨xs,n,rfl,rfl,hl,hxl,hf⟩:=DataW.trod_struct Tryz.underlying83 h
 rw [ocDir] at hl
 obtain ⟨c0,c1,rfl⟩:=list_2 hl
 have f0:DataW.trod enc Tryz.prog W 0 (fun _=>true) true n 9 [c0]=xs[0]?:=by have h':DataW.trod enc Tryz.prog W 0 (fun _=>true) true n 9 (([c0,c1].drop 0).take (Tryz.prog.cellsOf 9))=xs[0]?:=hf 0 _ rfl;rw [ocStr] at h';exact h'
 have f1:DataW.trod enc Tryz.prog W 0 (fun _=>true) true n 56 [c1]=xs[1]?:=by have h':DataW.trod enc Tryz.prog W 0 (fun _=>true) true n 56 (([c0,c1].drop 1).take (Tryz.prog.cellsOf 56))=xs[1]?:=hf 1 _ rfl;rw [ocSM] at h';exact h'
 match xs,hxl with
 | [y0,y1],_ =>
   obtain ⟨nm,e0,hy0,ht0⟩:=DataW.trod_string Tryz.underlying9 (f0.trans rfl);simp only [List.cons.injEq,and_true] at e0;subst e0
   obtain ⟨l,A1,k1,e1,g1,m1,_,b1,w1⟩:=mslice_opened (fun n' _ cs x h=>value_opened n' cs x h) (f1.trans rfl);subst e1
   refine ⟨(nm,l),?_,fun hm=>?_,?_⟩
   · unfold encD
     simp only [TS,TP]
     exact ⟨_,_,rfl,⟨rfl,ht0⟩,_,_,rfl,⟨A1,k1,by rw [encM_len],by rw [encM_len];exact g1,mat_row (c:=k1) g1 m1⟩,rfl⟩
   · simp only [List.map_cons,List.map_nil,DataW.weights,Tryz.underlying83,DataW.weightsEach] at hm
     exact w1 (fun m h=>hm m (by simp only [List.mem_append];simp [h]))
   · subst hy0
     simp only [szDr,Rows.uptoBulk,Rows.uptoBulkAll,List.map_cons,List.map_nil]
     have e:nm.data.toList.length=nm.size:=by simp
     omega
theorem openU_fld {H:Type} {enc:TypeId × Value→H} {W:World} (fuel:Nat) (cs:List Value) (x:DataW H × List MemPlace) (h:DataW.trod enc Tryz.prog W 0 (fun _=>true) true fuel 46 cs=some x):∃ a:FieldT,TS W (fun b=>b < W.heap.size) (encField a) cs∧((∀ m ∈ x.1.weights Tryz.prog 46,m≤reachBytes)→SlimF a∧DeepF a)∧szF a≤Rows.uptoBulk x.1:=by
 obtain ⟨xs,n,rfl,rfl,hl,hxl,hf⟩:=DataW.trod_struct Tryz.underlying46 h
 rw [ocFld] at hl
 obtain ⟨c0,c1,c2,c3,c4,c5,rfl⟩:=list_6 hl
 have f0:DataW.trod enc Tryz.prog W 0 (fun _=>true) true n 9 [c0]=xs[0]?:=by have h':DataW.trod enc Tryz.prog W 0 (fun _=>true) true n 9 (([c0,c1,c2,c3,c4,c5].drop 0).take (Tryz.prog.cellsOf 9))=xs[0]?:=hf 0 _ rfl;rw [ocStr] at h';exact h'
 have f1:DataW.trod enc Tryz.prog W 0 (fun _=>true) true n 35 [c1]=xs[1]?:=by have h':DataW.trod enc Tryz.prog W 0 (fun _=>true) true n 35 (([c0,c1,c2,c3,c4,c5].drop 1).take (Tryz.prog.cellsOf 35))=xs[1]?:=hf 1 _ rfl;rw [ocSP] at h';exact h'
 have f2:DataW.trod enc Tryz.prog W 0 (fun _=>true) true n 43 [c2,c3,c4]=xs[2]?:=by have h':DataW.trod enc Tryz.prog W 0 (fun _=>true) true n 43 (([c0,c1,c2,c3,c4,c5].drop 2).take (Tryz.prog.cellsOf 43))=xs[2]?:=hf 2 _ rfl;rw [ocTy] at h';exact h'
 have f3:DataW.trod enc Tryz.prog W 0 (fun _=>true) true n 44 [c5]=xs[3]?:=by have h':DataW.trod enc Tryz.prog W 0 (fun _=>true) true n 44 (([c0,c1,c2,c3,c4,c5].drop 5).take (Tryz.prog.cellsOf 44))=xs[3]?:=hf 3 _ rfl;rw [ocSD] at h';exact h'
 match xs,hxl with
 | [y0,y1,y2,y3],_ =>
   obtain ⟨nm,e0,hy0,ht0⟩:=DataW.trod_string Tryz.underlying9 (f0.trans rfl);simp only [List.cons.injEq,and_true] at e0;subst e0
   obtain ⟨ps,A1,k1,e1,g1,r1,w1,b1⟩:=slcU_opened (f:=encVar) (R:=fun _ _=>True) (sz:=szP) Tryz.underlying35 ocPar obPar (fun x=>by unfold encVar;simp only [TrS.len,encV_len]) (by decide) (fun n' _=>openU_par n') (f1.trans rfl);subst e1
   obtain ⟨tn,tl,tm,et0,et1,et2,htn⟩:=open_ty (f2.trans rfl);subst et0 et1 et2
   obtain ⟨ds,A3,k3,e3,g3,r3,w3,b3⟩:=slcU_opened (f:=encD) (sz:=szDr) (R:=fun a d=>(∀ m ∈ d.weights Tryz.prog 83,m≤reachBytes)→a.2.len*96≤140737488355328∧SlimM a.2) Tryz.underlying44 ocDir obDir (fun _=>rfl) (by decide) (fun n' _=>openU_dir n') (f3.trans rfl);subst e3
   refine ⟨⟨nm,ps,tn,tl,tm,ds⟩,?_,fun hm=>?_,?_⟩
   · unfold encField
     simp only [TS,TP]
     exact ⟨_,_,rfl,⟨rfl,ht0⟩,_,_,rfl,⟨A1,k1,by rw [rowOf_len],by rw [rowOf_len];exact g1,r1⟩,_,_,rfl,⟨rfl,htn⟩,_,_,rfl,⟨rfl,trivial⟩,_,_,rfl,⟨rfl,trivial⟩,_,_,rfl,⟨A3,k3,by rw [rowOf_len],by rw [rowOf_len];exact g3,r3⟩,rfl⟩
   · simp only [List.map_cons,List.map_nil,DataW.weights,Tryz.underlying46,DataW.weightsEach] at hm
     have a1:=w1 (fun m h=>hm m (by simp only [List.mem_append];simp [h]))
     have a3:=w3 (fun m h=>hm m (by simp only [List.mem_append];simp [h]))
     exact ⟨⟨a1.1,a3.1,fun x hx=>by obtain ⟨d,h1,h2⟩:=a3.2 x hx;exact (h1 h2).1⟩,fun x hx=>by obtain ⟨d,h1,h2⟩:=a3.2 x hx;exact (h1 h2).2⟩
   · subst hy0
     simp only [szF,Rows.uptoBulk,Rows.uptoBulkAll,List.map_cons,List.map_nil]
     have e:nm.data.toList.length=nm.size:=by simp
     omega
theorem openU_dfn {H:Type} {enc:TypeId × Value→H} {W:World} (fuel:Nat) (cs:List Value) (x:DataW H × List MemPlace) (h:DataW.trod enc Tryz.prog W 0 (fun _=>true) true fuel 37 cs=some x):∃ a:DefnT,TS W (fun b=>b < W.heap.size) (encDefn a) cs∧((∀ m ∈ x.1.weights Tryz.prog 37,m≤reachBytes)→SlimD a∧DeepD a)∧szD a≤Rows.uptoBulk x.1:=by
 obtain ⟨xs,n,rfl,rfl,hl,hxl,hf⟩:=DataW.trod_struct Tryz.underlying37 h
 rw [ocDef] at hl
 obtain ⟨c0,c1,c2,c3,c4,c5,rfl⟩:=list_6 hl
 have f0:DataW.trod enc Tryz.prog W 0 (fun _=>true) true n 3 [c0]=xs[0]?:=by have h':DataW.trod enc Tryz.prog W 0 (fun _=>true) true n 3 (([c0,c1,c2,c3,c4,c5].drop 0).take (Tryz.prog.cellsOf 3))=xs[0]?:=hf 0 _ rfl;rw [ocInt] at h';exact h'
 have f1:DataW.trod enc Tryz.prog W 0 (fun _=>true) true n 9 [c1]=xs[1]?:=by have h':DataW.trod enc Tryz.prog W 0 (fun _=>true) true n 9 (([c0,c1,c2,c3,c4,c5].drop 1).take (Tryz.prog.cellsOf 9))=xs[1]?:=hf 1 _ rfl;rw [ocStr] at h';exact h'
 have f2:DataW.trod enc Tryz.prog W 0 (fun _=>true) true n 32 [c2]=xs[2]?:=by have h':DataW.trod enc Tryz.prog W 0 (fun _=>true) true n 32 (([c0,c1,c2,c3,c4,c5].drop 2).take (Tryz.prog.cellsOf 32))=xs[2]?:=hf 2 _ rfl;rw [ocSS] at h';exact h'
 have f3:DataW.trod enc Tryz.prog W 0 (fun _=>true) true n 34 [c3]=xs[3]?:=by have h':DataW.trod enc Tryz.prog W 0 (fun _=>true) true n 34 (([c0,c1,c2,c3,c4,c5].drop 3).take (Tryz.prog.cellsOf 34))=xs[3]?:=hf 3 _ rfl;rw [ocSF] at h';exact h'
 have f4:DataW.trod enc Tryz.prog W 0 (fun _=>true) true n 32 [c4]=xs[4]?:=by have h':DataW.trod enc Tryz.prog W 0 (fun _=>true) true n 32 (([c0,c1,c2,c3,c4,c5].drop 4).take (Tryz.prog.cellsOf 32))=xs[4]?:=hf 4 _ rfl;rw [ocSS] at h';exact h'
 have f5:DataW.trod enc Tryz.prog W 0 (fun _=>true) true n 35 [c5]=xs[5]?:=by have h':DataW.trod enc Tryz.prog W 0 (fun _=>true) true n 35 (([c0,c1,c2,c3,c4,c5].drop 5).take (Tryz.prog.cellsOf 35))=xs[5]?:=hf 5 _ rfl;rw [ocSP] at h';exact h'
 match xs,hxl with
 | [y0,y1,y2,y3,y4,y5],_ =>
   obtain ⟨kd,e0,hy0,_⟩:=DataW.trod_int Tryz.underlying3 (f0.trans rfl);simp only [List.cons.injEq,and_true] at e0;subst e0
   obtain ⟨nm,e1,hy1,ht1⟩:=DataW.trod_string Tryz.underlying9 (f1.trans rfl);simp only [List.cons.injEq,and_true] at e1;subst e1
   obtain ⟨fs,A2,k2,e2,g2,r2,w2,b2⟩:=slcU_opened (f:=encStr) (R:=fun _ _=>True) (sz:=szN) Tryz.underlying32 ocStr obStr (fun _=>rfl) (by decide) (fun n' _=>(fun n cs x h=>openU_str1 n cs x h) n') (f2.trans rfl);subst e2
   obtain ⟨fl,A3,k3,e3,g3,r3,w3,b3⟩:=slcU_opened (f:=encField) (sz:=szF) (R:=fun a d=>(∀ m ∈ d.weights Tryz.prog 46,m≤reachBytes)→SlimF a∧DeepF a) Tryz.underlying34 ocFld obFld (fun _=>rfl) (by decide) (fun n' _=>openU_fld n') (f3.trans rfl);subst e3
   obtain ⟨pt,A4,k4,e4,g4,r4,w4,b4⟩:=slcU_opened (f:=encStr) (R:=fun _ _=>True) (sz:=szN) Tryz.underlying32 ocStr obStr (fun _=>rfl) (by decide) (fun n' _=>(fun n cs x h=>openU_str1 n cs x h) n') (f4.trans rfl);subst e4
   obtain ⟨pm,A5,k5,e5,g5,r5,w5,b5⟩:=slcU_opened (f:=encVar) (R:=fun _ _=>True) (sz:=szP) Tryz.underlying35 ocPar obPar (fun x=>by unfold encVar;simp only [TrS.len,encV_len]) (by decide) (fun n' _=>openU_par n') (f5.trans rfl);subst e5
   refine ⟨⟨kd,nm,fs,fl,pt,pm⟩,?_,fun hm=>?_,?_⟩
   · unfold encDefn
     simp only [TS,TP]
     exact ⟨_,_,rfl,⟨rfl,trivial⟩,_,_,rfl,⟨rfl,ht1⟩,_,_,rfl,⟨A2,k2,by rw [rowOf_len],by rw [rowOf_len];exact g2,r2⟩,_,_,rfl,⟨A3,k3,by rw [rowOf_len],by rw [rowOf_len];exact g3,r3⟩,_,_,rfl,⟨A4,k4,by rw [rowOf_len],by rw [rowOf_len];exact g4,r4⟩,_,_,rfl,⟨A5,k5,by rw [rowOf_len],by rw [rowOf_len];exact g5,r5⟩,rfl⟩
   · simp only [List.map_cons,List.map_nil,DataW.weights,Tryz.underlying37,DataW.weightsEach] at hm
     have a2:=w2 (fun m h=>hm m (by simp only [List.mem_append];simp [h]))
     have a3:=w3 (fun m h=>hm m (by simp only [List.mem_append];simp [h]))
     have a4:=w4 (fun m h=>hm m (by simp only [List.mem_append];simp [h]))
     have a5:=w5 (fun m h=>hm m (by simp only [List.mem_append];simp [h]))
     exact ⟨⟨a2.1,a3.1,a4.1,a5.1,fun x hx=>by obtain ⟨d,h1,h2⟩:=a3.2 x hx;exact (h1 h2).1⟩,fun x hx=>by obtain ⟨d,h1,h2⟩:=a3.2 x hx;exact (h1 h2).2⟩
   · subst hy1
     simp only [szD,Rows.uptoBulk,Rows.uptoBulkAll,List.map_cons,List.map_nil]
     have e:nm.data.toList.length=nm.size:=by simp
     omega
theorem openU_sch {H:Type} {enc:TypeId × Value→H} {W:World} (fuel:Nat) (cs:List Value) (x:DataW H × List MemPlace) (h:DataW.trod enc Tryz.prog W 0 (fun _=>true) true fuel 24 cs=some x):∃ a:SchT,TS W (fun b=>b < W.heap.size) (encSch a) cs∧((∀ m ∈ x.1.weights Tryz.prog 24,m≤reachBytes)→SlimS a∧DeepS a)∧szS a≤Rows.uptoBulk x.1:=by
 obtain ⟨xs,n,rfl,rfl,hl,hxl,hf⟩:=DataW.trod_struct Tryz.underlying24 h
 rw [ocSch] at hl
 obtain ⟨c0,c1,c2,rfl⟩:=list_3 hl
 have f0:DataW.trod enc Tryz.prog W 0 (fun _=>true) true n 22 [c0]=xs[0]?:=by have h':DataW.trod enc Tryz.prog W 0 (fun _=>true) true n 22 (([c0,c1,c2].drop 0).take (Tryz.prog.cellsOf 22))=xs[0]?:=hf 0 _ rfl;rw [ocSDf] at h';exact h'
 have f1:DataW.trod enc Tryz.prog W 0 (fun _=>true) true n 9 [c1]=xs[1]?:=by have h':DataW.trod enc Tryz.prog W 0 (fun _=>true) true n 9 (([c0,c1,c2].drop 1).take (Tryz.prog.cellsOf 9))=xs[1]?:=hf 1 _ rfl;rw [ocStr] at h';exact h'
 have f2:DataW.trod enc Tryz.prog W 0 (fun _=>true) true n 9 [c2]=xs[2]?:=by have h':DataW.trod enc Tryz.prog W 0 (fun _=>true) true n 9 (([c0,c1,c2].drop 2).take (Tryz.prog.cellsOf 9))=xs[2]?:=hf 2 _ rfl;rw [ocStr] at h';exact h'
 match xs,hxl with
 | [y0,y1,y2],_ =>
   obtain ⟨l,A0,k0,e0,g0,r0,w0,b0⟩:=slcU_opened (f:=encDefn) (sz:=szD) (R:=fun a d=>(∀ m ∈ d.weights Tryz.prog 37,m≤reachBytes)→SlimD a∧DeepD a) Tryz.underlying22 ocDef obDef (fun _=>rfl) (by decide) (fun n' _=>openU_dfn n') (f0.trans rfl);subst e0
   obtain ⟨q,e1,hy1,ht1⟩:=DataW.trod_string Tryz.underlying9 (f1.trans rfl);simp only [List.cons.injEq,and_true] at e1;subst e1
   obtain ⟨mu,e2,hy2,ht2⟩:=DataW.trod_string Tryz.underlying9 (f2.trans rfl);simp only [List.cons.injEq,and_true] at e2;subst e2
   refine ⟨⟨l,q,mu⟩,?_,fun hm=>?_,?_⟩
   · unfold encSch
     simp only [TS,TP]
     exact ⟨_,_,rfl,⟨A0,k0,by rw [rowOf_len],by rw [rowOf_len];exact g0,r0⟩,_,_,rfl,⟨rfl,ht1⟩,_,_,rfl,⟨rfl,ht2⟩,rfl⟩
   · simp only [List.map_cons,List.map_nil,DataW.weights,Tryz.underlying24,DataW.weightsEach] at hm
     have a0:=w0 (fun m h=>hm m (by simp only [List.mem_append];simp [h]))
     exact ⟨⟨a0.1,fun x hx=>by obtain ⟨d,h1,h2⟩:=a0.2 x hx;exact (h1 h2).1⟩,fun x hx=>by obtain ⟨d,h1,h2⟩:=a0.2 x hx;exact (h1 h2).2⟩
   · simp only [szS,Rows.uptoBulk,Rows.uptoBulkAll,List.map_cons,List.map_nil]
     omega
theorem openU_schema {H:Type} {enc:TypeId × Value→H} {W:World} {base:Nat} {v:Value} {d:DataW H} {ps:List MemPlace} (hval:Value.okWide Tryz.prog W .any base 24 v) (hd:DataW.Trod enc Tryz.prog W 0 (fun _=>true) true 24 v d ps) :
  ∃ S c0 c1 c2,v=.agg #[c0,c1,c2]∧TS W (fun b=>b < W.heap.size) (encSch S) [c0,c1,c2]∧((∀ m ∈ d.weights Tryz.prog 24,m≤reachBytes)→SlimS S∧DeepS S)∧szS S≤Rows.uptoBulk d:=by
 obtain ⟨cs,rfl,hsz⟩:=okWide_struct Tryz.underlying24 hval
 obtain ⟨fuel,hf⟩:=hd
 obtain ⟨S,h1,h2,h3⟩:=openU_sch fuel _ _ hf
 obtain ⟨L⟩:=cs
 rw [ocSch] at hsz
 match L,hsz with
 | [a,b,c],_=>exact ⟨S,a,b,c,rfl,h1,h2,h3⟩
open Go.RowKit
theorem W64_fits {n:Nat} (h:n≤1048576):W64 n=(n:Int):=by
 unfold W64
 simp only [IntKind.wrap_i64]
 omega
end Go.Proofs.YtaekdfcpbepepaaGreatDoor
