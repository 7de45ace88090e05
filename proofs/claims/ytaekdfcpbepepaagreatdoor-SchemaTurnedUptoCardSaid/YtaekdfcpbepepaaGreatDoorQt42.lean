/- A value that comes in, opened with all that is known of it: it lies in memory that was there, its numbers are of 64 bits, its bulk bounds its size, the reach bounds its lists. -/
import Derived.SizedLaws
import Derived.Test.YtaekdfcpbepepaaGreatDoorCards
import Derived.Test.YtaekdfcpbepepaaGreatDoorTie
import Derived.OpenShut
import Derived.Deep.DeepHandedRow
import Derived.Lib.LaidU8
import Derived.Lay
import Derived.MakeChecks
import Derived.Test.YtaekdfcpbepepaaGreatDoorQt22
set_option maxRecDepth 100000
namespace Go.Proofs.YtaekdfcpbepepaaGreatDoor
open Go.ChangeShapes Go.WideShapes Go.ChangeAt Go.RowKit
def OpenedV {H:Type} (W:World) (cs:List Value) (d:DataW H):Prop:=∃ v c0 c1 c2 c3 c4,cs=[c0,c1,c2,c3,c4]∧VAt W W.heap.size v c0 c1 c2 c3 c4∧RngV v∧sizeV v≤Rows.uptoBulk d∧((∀ m ∈ d.weights Tryz.prog 58,m≤reachBytes)→SlimV v)
def OpenedM {H:Type} (W:World) (cs:List Value) (d:DataW H):Prop:=∃ nm v c0 c1 c2 c3 c4,cs=[.string nm,c0,c1,c2,c3,c4]∧nm.size≤9223372036854775807∧VAt W W.heap.size v c0 c1 c2 c3 c4∧RngV v∧nm.size+sizeV v≤Rows.uptoBulk d∧((∀ m ∈ d.weights Tryz.prog 97,m≤reachBytes)→SlimV v)
theorem cells5 {W:World} {b o i:Nat} {c0 c1 c2 c3 c4:Value} {n:Nat} (h:W.cells? 0 ⟨b,o+i,none⟩ n=some [c0,c1,c2,c3,c4]):b < W.heap.size∧Five W b (o+i) c0 c1 c2 c3 c4:=by
 obtain ⟨_,hl,hat⟩:=World.cells?_some h
 simp only [List.length_cons,List.length_nil] at hl
 simp only [add_at] at hat
 have g0:=hat 0 (by omega)
 have g1:=hat 1 (by omega)
 have g2:=hat 2 (by omega)
 have g3:=hat 3 (by omega)
 have g4:=hat 4 (by omega)
 exact ⟨World.block_lt_of_cell? W _ (g0.trans rfl),g0.trans rfl,g1.trans rfl,g2.trans rfl,g3.trans rfl,g4.trans rfl⟩
theorem cells6 {W:World} {b o i:Nat} {c c0 c1 c2 c3 c4:Value} {n:Nat} (h:W.cells? 0 ⟨b,o+i,none⟩ n=some [c,c0,c1,c2,c3,c4]):b < W.heap.size∧W.cell? ⟨b,o+i,none⟩=some c∧Five W b (o+i+1) c0 c1 c2 c3 c4:=by
 obtain ⟨_,hl,hat⟩:=World.cells?_some h
 simp only [List.length_cons,List.length_nil] at hl
 simp only [add_at] at hat
 have g:=hat 0 (by omega)
 have g0:=hat 1 (by omega)
 have g1:=hat 2 (by omega)
 have g2:=hat 3 (by omega)
 have g3:=hat 4 (by omega)
 have g4:=hat 5 (by omega)
 exact ⟨World.block_lt_of_cell? W _ (g.trans rfl),g.trans rfl,g0.trans rfl,g1.trans rfl,g2.trans rfl,g3.trans rfl,g4.trans rfl⟩
theorem list_opened {H:Type} {W:World} {b o:Nat} {T:List Value→Option (DataW H × List MemPlace)} (IH:∀ cs x,T cs=some x→OpenedV W cs x.1):∀ (elems:List (DataW H × List MemPlace)) (j:Nat),
   (∀ i,i < elems.length→(W.cells? 0 ⟨b,o+(j+i)*5,none⟩ 5).bind T=elems[i]?) →
   ∃ l:VL,l.len=elems.length∧LAt W W.heap.size l (some ⟨b,o,none⟩) j∧RngL l∧sizeL l≤Rows.uptoBulkAll (elems.map (·.1))∧((∀ m ∈ DataW.weightsAll Tryz.prog 58 (elems.map (·.1)),m≤reachBytes)→SlimL l)
 | [],j,_=>⟨.nil,rfl,by unfold LAt;trivial,by unfold RngL;trivial,by rw [sizeL];exact Nat.zero_le _,fun _=>by unfold SlimL;trivial⟩
 | x :: elems,j,h=>by
   have h0:=h 0 (by simp)
   rw [Nat.add_zero] at h0
   obtain ⟨cs,hc,ht⟩:=Option.bind_eq_some_iff.1 (h0.trans rfl)
   obtain ⟨v,c0,c1,c2,c3,c4,rfl,hv,hr,hs,hw⟩:=IH cs x ht
   obtain ⟨hlt,hF⟩:=cells5 hc
   obtain ⟨l,h1,h2,h3,h4,h5⟩:=list_opened IH elems (j+1) (fun i hi=>by
     have:=h (i+1) (by simp;omega)
     rw [show j+(i+1)=j+1+i by omega] at this
     simpa using this)
   refine ⟨.cons v l,by rw [VL.len,h1,List.length_cons],by unfold LAt;exact ⟨⟨b,o,c0,c1,c2,c3,c4,rfl,hlt,hF,hv⟩,h2⟩,by unfold RngL;exact ⟨hr,h3⟩,?_,fun hm=>?_⟩
   · rw [sizeL,List.map_cons,Rows.uptoBulkAll];omega
   · rw [List.map_cons,DataW.weightsAll] at hm
     unfold SlimL
     exact ⟨hw (fun m h=>hm m (List.mem_append_left _ h)),h5 (fun m h=>hm m (List.mem_append_right _ h))⟩
theorem mems_opened {H:Type} {W:World} {b o:Nat} {T:List Value→Option (DataW H × List MemPlace)} (IH:∀ cs x,T cs=some x→OpenedM W cs x.1):∀ (elems:List (DataW H × List MemPlace)) (j:Nat),
   (∀ i,i < elems.length→(W.cells? 0 ⟨b,o+(j+i)*6,none⟩ 6).bind T=elems[i]?) →
   ∃ l:VM,l.len=elems.length∧MAt W W.heap.size l (some ⟨b,o,none⟩) j∧RngM l∧sizeM l≤Rows.uptoBulkAll (elems.map (·.1))∧((∀ m ∈ DataW.weightsAll Tryz.prog 97 (elems.map (·.1)),m≤reachBytes)→SlimM l)
 | [],j,_=>⟨.nil,rfl,by unfold MAt;trivial,by unfold RngM;trivial,by rw [sizeM];exact Nat.zero_le _,fun _=>by unfold SlimM;trivial⟩
 | x :: elems,j,h=>by
   have h0:=h 0 (by simp)
   rw [Nat.add_zero] at h0
   obtain ⟨cs,hc,ht⟩:=Option.bind_eq_some_iff.1 (h0.trans rfl)
   obtain ⟨nm,v,c0,c1,c2,c3,c4,rfl,hn,hv,hr,hs,hw⟩:=IH cs x ht
   obtain ⟨hlt,hN,hF⟩:=cells6 hc
   obtain ⟨l,h1,h2,h3,h4,h5⟩:=mems_opened IH elems (j+1) (fun i hi=>by
     have:=h (i+1) (by simp;omega)
     rw [show j+(i+1)=j+1+i by omega] at this
     simpa using this)
   refine ⟨.cons nm v l,by rw [VM.len,h1,List.length_cons],by unfold MAt;exact ⟨⟨b,o,c0,c1,c2,c3,c4,rfl,hlt,hN,hn,hF,hv⟩,h2⟩,by unfold RngM;exact ⟨hr,h3⟩,?_,fun hm=>?_⟩
   · rw [sizeM,List.map_cons,Rows.uptoBulkAll];omega
   · rw [List.map_cons,DataW.weightsAll] at hm
     unfold SlimM
     exact ⟨hw (fun m h=>hm m (List.mem_append_left _ h)),h5 (fun m h=>hm m (List.mem_append_right _ h))⟩
theorem bytesV:Tryz.prog.bytesOf 58=80:=by kernel_rfl
theorem bytesM:Tryz.prog.bytesOf 97=96:=by kernel_rfl
theorem spot_none {W:World} {a:Addr} {n:Nat} {cs:List Value} (hn:0 < n) (h:W.cells? 0 a n=some cs):a.spot=none:=by
 obtain ⟨_,hl,hat⟩:=World.cells?_some h
 have h2:=hat 0 (by omega)
 rw [List.getElem?_eq_getElem (by omega)] at h2
 have:=World.cell?_spot h2
 obtain ⟨b,o,spot⟩:=a
 simpa [Addr.add] using this
theorem slice_opened {H:Type} {enc:TypeId × Value→H} {W:World} {fuel:Nat} {cv:Value} {x:DataW H × List MemPlace} (IH:∀ n,n < fuel→∀ cs x,DataW.trod enc Tryz.prog W 0 (fun _=>true) true n 58 cs=some x→OpenedV W cs x.1)
   (h:DataW.trod enc Tryz.prog W 0 (fun _=>true) true fuel 55 [cv]=some x):∃ (l:VL) (A:Option Addr) (c:Nat),cv=.slice A l.len c∧l.len≤9223372036854775807∧LAt W W.heap.size l A 0∧RngL l∧sizeL l+1≤Rows.uptoBulk x.1∧((∀ m ∈ x.1.weights Tryz.prog 55,m≤reachBytes)→l.len*80≤140737488355328∧SlimL l):=by
 rcases DataW.trod_slice Tryz.underlying55 h with ⟨hc,rfl⟩|⟨a,len,cap,elems,rest,n',hn',hc,rfl,_,hlc,hcm,hel,hat,_⟩
 · simp only [List.cons.injEq,and_true] at hc
   exact ⟨.nil,none,0,hc,Nat.zero_le _,by unfold LAt;trivial,by unfold RngL;trivial,by simp [sizeL,Rows.uptoBulk],fun _=>⟨by simp [VL.len],by unfold SlimL;trivial⟩⟩
 · simp only [List.cons.injEq,and_true] at hc
   subst hel
   rw [cellsV] at hat
   obtain ⟨b,o,spot⟩:=a
   have hsp:0 < elems.length→spot=none:=fun hp=>by
     have h1:=hat 0 hp
     rw [List.getElem?_eq_getElem hp] at h1
     obtain ⟨cs',hc',_⟩:=Option.bind_eq_some_iff.1 h1
     exact spot_none (by omega) hc'
   rcases Nat.eq_zero_or_pos elems.length with hz|hz
   · have he:elems=[]:=List.eq_nil_of_length_eq_zero hz
     subst he
     exact ⟨.nil,_,cap,hc,Nat.zero_le _,by unfold LAt;trivial,by unfold RngL;trivial,by simp only [sizeL,Rows.uptoBulk];omega,fun _=>⟨by simp [VL.len],by unfold SlimL;trivial⟩⟩
   · obtain rfl:=hsp hz
     obtain ⟨l,h1,h2,h3,h4,h5⟩:=list_opened (T:=DataW.trod enc Tryz.prog W 0 (fun _=>true) true n' 58) (IH n' (by omega)) elems 0 (fun i hi=>by
       have:=hat i hi
       rwa [add_at,show i*5=(0+i)*5 by omega] at this)
     refine ⟨l,_,cap,by rw [hc,h1],by rw [h1];exact Nat.le_trans hlc hcm,h2,h3,?_,fun hm=>?_⟩
     · simp only [Rows.uptoBulk];omega
     · simp only [DataW.weights,Tryz.underlying55] at hm
       refine ⟨?_,h5 (fun m h=>hm m (List.mem_cons.2 (.inr (List.mem_append.2 (.inl h)))))⟩
       have:=hm _ (List.mem_cons.2 (.inl rfl))
       simp only [List.length_map,bytesV,reachBytes] at this
       rw [h1];omega
theorem mslice_opened {H:Type} {enc:TypeId × Value→H} {W:World} {fuel:Nat} {cv:Value} {x:DataW H × List MemPlace} (IH:∀ n,n < fuel→∀ cs x,DataW.trod enc Tryz.prog W 0 (fun _=>true) true n 58 cs=some x→OpenedV W cs x.1)
   (h:DataW.trod enc Tryz.prog W 0 (fun _=>true) true fuel 56 [cv]=some x):∃ (l:VM) (A:Option Addr) (c:Nat),cv=.slice A l.len c∧l.len≤9223372036854775807∧MAt W W.heap.size l A 0∧RngM l∧sizeM l+1≤Rows.uptoBulk x.1∧((∀ m ∈ x.1.weights Tryz.prog 56,m≤reachBytes)→l.len*96≤140737488355328∧SlimM l):=by
 rcases DataW.trod_slice Tryz.underlying56 h with ⟨hc,rfl⟩|⟨a,len,cap,elems,rest,n',hn',hc,rfl,_,hlc,hcm,hel,hat,_⟩
 · simp only [List.cons.injEq,and_true] at hc
   exact ⟨.nil,none,0,hc,Nat.zero_le _,by unfold MAt;trivial,by unfold RngM;trivial,by simp [sizeM,Rows.uptoBulk],fun _=>⟨by simp [VM.len],by unfold SlimM;trivial⟩⟩
 · simp only [List.cons.injEq,and_true] at hc
   subst hel
   rw [cellsM] at hat
   obtain ⟨b,o,spot⟩:=a
   have hsp:0 < elems.length→spot=none:=fun hp=>by
     have h1:=hat 0 hp
     rw [List.getElem?_eq_getElem hp] at h1
     obtain ⟨cs',hc',_⟩:=Option.bind_eq_some_iff.1 h1
     exact spot_none (by omega) hc'
   have IHM:∀ cs x,DataW.trod enc Tryz.prog W 0 (fun _=>true) true n' 97 cs=some x→OpenedM W cs x.1:=by
     intro cs x ht
     obtain ⟨ys,n2,hn2,rfl,hl2,hyl,hf2⟩:=DataW.trod_struct Tryz.underlying97 ht
     rw [cellsM] at hl2
     obtain ⟨d,d0,d1,d2,d3,d4,rfl⟩:=six_list hl2
     have p0:DataW.trod enc Tryz.prog W 0 (fun _=>true) true n2 9 [d]=ys[0]?:=by have h':DataW.trod enc Tryz.prog W 0 (fun _=>true) true n2 9 (([d,d0,d1,d2,d3,d4].drop 0).take (Tryz.prog.cellsOf 9))=ys[0]?:=hf2 0 _ rfl;rw [cellsS] at h';exact h'
     have p1:DataW.trod enc Tryz.prog W 0 (fun _=>true) true n2 58 [d0,d1,d2,d3,d4]=ys[1]?:=by have h':DataW.trod enc Tryz.prog W 0 (fun _=>true) true n2 58 (([d,d0,d1,d2,d3,d4].drop 1).take (Tryz.prog.cellsOf 58))=ys[1]?:=hf2 1 _ rfl;rw [cellsV] at h';exact h'
     match ys,hyl with
     | [z0,z1],_ =>
       obtain ⟨t,e2,hz0,htz⟩:=DataW.trod_string Tryz.underlying9 (p0.trans rfl)
       obtain ⟨v,c0,c1,c2,c3,c4,hcs,hv,hr,hs,hw⟩:=IH n2 (by omega) _ z1 (p1.trans rfl)
       simp only [List.cons.injEq,and_true] at e2 hcs
       obtain ⟨rfl,rfl,rfl,rfl,rfl⟩:=hcs
       subst e2
       refine ⟨t,v,_,_,_,_,_,rfl,htz,hv,hr,?_,fun hm=>hw (fun m h=>hm m ?_)⟩
       · simp only [List.map_cons,List.map_nil,Rows.uptoBulk,Rows.uptoBulkAll,hz0]
         have:t.data.toList.length=t.size:=Array.length_toList
         omega
       · simp only [List.map_cons,List.map_nil,DataW.weights,Tryz.underlying97,DataW.weightsEach]
         exact List.mem_append_right _ (List.mem_append_left _ h)
   rcases Nat.eq_zero_or_pos elems.length with hz|hz
   · have he:elems=[]:=List.eq_nil_of_length_eq_zero hz
     subst he
     exact ⟨.nil,_,cap,hc,Nat.zero_le _,by unfold MAt;trivial,by unfold RngM;trivial,by simp only [sizeM,Rows.uptoBulk];omega,fun _=>⟨by simp [VM.len],by unfold SlimM;trivial⟩⟩
   · obtain rfl:=hsp hz
     obtain ⟨l,h1,h2,h3,h4,h5⟩:=mems_opened (T:=DataW.trod enc Tryz.prog W 0 (fun _=>true) true n' 97) IHM elems 0 (fun i hi=>by
       have:=hat i hi
       rwa [add_at,show i*6=(0+i)*6 by omega] at this)
     refine ⟨l,_,cap,by rw [hc,h1],by rw [h1];exact Nat.le_trans hlc hcm,h2,h3,?_,fun hm=>?_⟩
     · simp only [Rows.uptoBulk];omega
     · simp only [DataW.weights,Tryz.underlying56] at hm
       refine ⟨?_,h5 (fun m h=>hm m (List.mem_cons.2 (.inr (List.mem_append.2 (.inl h)))))⟩
       have:=hm _ (List.mem_cons.2 (.inl rfl))
       simp only [List.length_map,bytesM,reachBytes] at this
       rw [h1];omega
theorem value_opened {H:Type} {enc:TypeId × Value→H} {W:World} : ∀ (fuel:Nat) (cs:List Value) (x:DataW H × List MemPlace),DataW.trod enc Tryz.prog W 0 (fun _=>true) true fuel 58 cs=some x→OpenedV W cs x.1:=by
 intro fuel
 induction fuel using Nat.strongRecOn with
 | ind fuel ih =>
   intro cs x h
   obtain ⟨xs,n,rfl,rfl,hl,hxl,hf⟩:=DataW.trod_struct Tryz.underlying58 h
   rw [cellsV] at hl
   obtain ⟨c0,c1,c2,c3,c4,rfl⟩:=five_list hl
   have f0:DataW.trod enc Tryz.prog W 0 (fun _=>true) true n 3 [c0]=xs[0]?:=by have h':DataW.trod enc Tryz.prog W 0 (fun _=>true) true n 3 (([c0,c1,c2,c3,c4].drop 0).take (Tryz.prog.cellsOf 3))=xs[0]?:=hf 0 _ rfl;rw [cellsI] at h';exact h'
   have f1:DataW.trod enc Tryz.prog W 0 (fun _=>true) true n 2 [c1]=xs[1]?:=by have h':DataW.trod enc Tryz.prog W 0 (fun _=>true) true n 2 (([c0,c1,c2,c3,c4].drop 1).take (Tryz.prog.cellsOf 2))=xs[1]?:=hf 1 _ rfl;rw [cellsI64] at h';exact h'
   have f2:DataW.trod enc Tryz.prog W 0 (fun _=>true) true n 9 [c2]=xs[2]?:=by have h':DataW.trod enc Tryz.prog W 0 (fun _=>true) true n 9 (([c0,c1,c2,c3,c4].drop 2).take (Tryz.prog.cellsOf 9))=xs[2]?:=hf 2 _ rfl;rw [cellsS] at h';exact h'
   have f3:DataW.trod enc Tryz.prog W 0 (fun _=>true) true n 55 [c3]=xs[3]?:=by have h':DataW.trod enc Tryz.prog W 0 (fun _=>true) true n 55 (([c0,c1,c2,c3,c4].drop 3).take (Tryz.prog.cellsOf 55))=xs[3]?:=hf 3 _ rfl;rw [cellsLV] at h';exact h'
   have f4:DataW.trod enc Tryz.prog W 0 (fun _=>true) true n 56 [c4]=xs[4]?:=by have h':DataW.trod enc Tryz.prog W 0 (fun _=>true) true n 56 (([c0,c1,c2,c3,c4].drop 4).take (Tryz.prog.cellsOf 56))=xs[4]?:=hf 4 _ rfl;rw [cellsLM] at h';exact h'
   match xs,hxl with
   | [y0,y1,y2,y3,y4],_ =>
     obtain ⟨k,e0,hy0,_⟩:=DataW.trod_int Tryz.underlying3 (f0.trans rfl)
     obtain ⟨m,e1,hy1,wf⟩:=DataW.trod_int Tryz.underlying2 (f1.trans rfl)
     obtain ⟨t,e2,hy2,ht⟩:=DataW.trod_string Tryz.underlying9 (f2.trans rfl)
     obtain ⟨l,A,c,h3,g3,h4,r3,s3,w3⟩:=slice_opened (fun n' hn'=>ih n' (by omega)) (f3.trans rfl)
     obtain ⟨l',A',c',h5,g5,h6,r5,s5,w5⟩:=mslice_opened (fun n' hn'=>ih n' (by omega)) (f4.trans rfl)
     simp only [List.cons.injEq,and_true] at e0 e1 e2
     subst e0 e1 e2 h3 h5
     refine ⟨.mk k m t l l',_,_,_,_,_,rfl,by unfold VAt;exact ⟨rfl,rfl,rfl,ht,⟨A,c,rfl,g3,h4⟩,A',c',rfl,g5,h6⟩,?_,?_,fun hm=>?_⟩
     · unfold RngV
       refine ⟨?_,r3,r5⟩
       have hw:=wf
       simp only [Lit.wf] at hw
       have hw2:(-9223372036854775808≤m)∧m≤9223372036854775807:=by
        simpa [Bool.and_eq_true,IntKind.min,IntKind.max,IntKind.signed,IntKind.bits] using hw
       exact hw2
     · simp only [List.map_cons,List.map_nil,Rows.uptoBulk,Rows.uptoBulkAll,hy0,hy1,hy2]
       have:t.data.toList.length=t.size:=Array.length_toList
       rw [sizeV]
       omega
     · simp only [List.map_cons,List.map_nil,DataW.weights,Tryz.underlying58,DataW.weightsEach,hy0,hy1,hy2] at hm
       unfold SlimV
       have a3:=w3 (fun m h=>hm m (by simp only [List.mem_append];simp [h]))
       have a5:=w5 (fun m h=>hm m (by simp only [List.mem_append];simp [h]))
       exact ⟨a3.1,a5.1,a3.2,a5.2⟩
open Go.ChangeShapes Go.WideShapes Go.ChangeAt Go.RowKit
theorem own:ownKnob Tryz.prog.godebug=none:=by kernel_rfl
theorem laidOut:laidOutB Tryz.prog=true:=by kernel_rfl
theorem gTab : Tryz.prog.globalNamed "seine/letters.shapes" = some 0 := by kernel_rfl
theorem gTabType:(Tryz.prog.globals[0]?).map (·.type)=some 225:=by kernel_rfl
theorem cellsTab:Tryz.prog.cellsOf 225=12:=by kernel_rfl
theorem cellsShape:Tryz.prog.cellsOf 224=3:=by kernel_rfl
theorem cellsInt:Tryz.prog.cellsOf 3=1:=by kernel_rfl
theorem one_shape {w:World} {cs:List Value} {m:Nat} {a b c:Int} {p:List MemPlace} (h:DataW.trod (fun _=>()) Tryz.prog w 0 (fun _=>true) false m 224 cs=some (DataW.agg [.lit (.int .i64 a),.lit (.int .i64 b),.lit (.int .i64 c)],p)) :
   cs=[.int .i64 a,.int .i64 b,.int .i64 c]:=by
 obtain ⟨y0,y1,y2,n,hx,hl,h0,h1,h2⟩:=Go.Deep.trod_struct3 Tryz.underlying224 h
 rw [cellsShape] at hl
 simp only [cellsInt] at h0 h1 h2
 obtain ⟨n0,c0,rfl,_⟩:=DataW.trod_int Tryz.underlying3 h0
 obtain ⟨n1,c1,rfl,_⟩:=DataW.trod_int Tryz.underlying3 h1
 obtain ⟨n2,c2,rfl,_⟩:=DataW.trod_int Tryz.underlying3 h2
 simp only [Prod.mk.injEq,DataW.agg.injEq,List.cons.injEq,DataW.lit.injEq,Lit.int.injEq,true_and,and_true] at hx
 obtain ⟨⟨rfl,rfl,rfl⟩,_⟩:=hx
 match cs,hl with
 | [x,y,z],_ =>
   simp at c0 c1 c2
   subst c0 c1 c2
   rfl
theorem table {W : World} (h : Lib.VarReads Tryz.prog W "seine/letters.shapes" Rows.laid_seine_letters_shapes) : TabAt W := by
 obtain ⟨g',t',cs,fuel,p,hg',ht',hvar,hd⟩:=h
 obtain rfl:=Option.some.inj (gTab.symm.trans hg')
 obtain rfl:=Option.some.inj (gTabType.symm.trans ht')
 obtain ⟨xs,m,_,hx,hl,hxl,hi⟩:=DataW.trod_array Tryz.underlying225 hd
 rw [cellsTab] at hl
 simp only [cellsShape] at hi
 match xs,hxl with
 | [x0,x1,x2,x3],_ =>
   simp only [Rows.laid_seine_letters_shapes,List.map_cons,List.map_nil,Prod.mk.injEq,DataW.agg.injEq,List.cons.injEq,and_true] at hx
   obtain ⟨⟨e0,e1,e2,e3⟩,_⟩:=hx
   have a0:=one_shape (p:=x0.2) ((hi 0 (by omega)).trans (by rw [e0];rfl))
   have a1:=one_shape (p:=x1.2) ((hi 1 (by omega)).trans (by rw [e1];rfl))
   have a2:=one_shape (p:=x2.2) ((hi 2 (by omega)).trans (by rw [e2];rfl))
   have a3:=one_shape (p:=x3.2) ((hi 3 (by omega)).trans (by rw [e3];rfl))
   have hcs:cs.toList=[.int .i64 0,.int .i64 128,.int .i64 0,.int .i64 192,.int .i64 224,.int .i64 128,.int .i64 224,.int .i64 240,.int .i64 2048,.int .i64 240,.int .i64 248,.int .i64 65536]:=by
    have hl':cs.toList.length=12:=hl
    generalize cs.toList=l at *
    match l,hl' with
    | [b0,b1,b2,b3,b4,b5,b6,b7,b8,b9,b10,b11],_ =>
      simp at a0 a1 a2 a3
      obtain ⟨rfl,rfl,rfl⟩:=a0
      obtain ⟨rfl,rfl,rfl⟩:=a1
      obtain ⟨rfl,rfl,rfl⟩:=a2
      obtain ⟨rfl,rfl,rfl⟩:=a3
      rfl
   intro j z hz
   rw [World.var?_cell gTab hvar j]
   have:cs[j]? = cs.toList[j]?:=by simp
   rw [this,hcs]
   have hj:j < 12:=(List.getElem?_eq_some_iff.1 hz).1
   match j,hj,hz with
   | 0,_,hz|1,_,hz|2,_,hz|3,_,hz|4,_,hz|5,_,hz|6,_,hz|7,_,hz|8,_,hz|9,_,hz|10,_,hz|11,_,hz=>cases hz;rfl
theorem gErr : Tryz.prog.globalNamed "strconv.ErrRange" = some 2 := by kernel_rfl
theorem gErrType:(Tryz.prog.globals[2]?).map (·.type)=some 220:=by kernel_rfl
theorem error_laid {W : World} (h : Lib.VarReads Tryz.prog W "strconv.ErrRange" Rows.laid_strconv_ErrRange) : ∃ te pe, W.cell? ⟨2, 0, none⟩ = some (.iface te pe) := by
 obtain ⟨g',t',cs,fuel,p,hg',ht',hvar,hd⟩:=h
 obtain rfl:=Option.some.inj (gErr.symm.trans hg')
 obtain rfl:=Option.some.inj (gErrType.symm.trans ht')
 obtain ⟨_,u,v,e,_,_⟩:=iface_of_trod Tryz.underlying220 hd
 refine ⟨u,v,?_⟩
 rw [World.var?_cell gErr hvar 0]
 have:cs[0]? = cs.toList[0]?:=by simp
 rw [this,e]
 rfl
theorem gPowType:(Tryz.prog.globals[3]?).map (·.type)=some 259:=by kernel_rfl
theorem pow_laid {W : World} (h : Lib.VarReads Tryz.prog W "internal/strconv.uint64pow10" Rows.laid_internal_strconv_uint64pow10) : Lib.TabIs Tryz.prog W "internal/strconv.uint64pow10" .u64 Lib.pow10Tab := by
 obtain ⟨g',t',cs,fuel,p,hg',ht',hvar,hd⟩:=h
 obtain rfl:=Option.some.inj (gPow.symm.trans hg')
 obtain rfl:=Option.some.inj (gPowType.symm.trans ht')
 have hd':DataW.trod (fun _=>()) Tryz.prog W 0 (fun _=>true) false fuel 259 cs.toList=some (Lib.tabData .u64 Lib.pow10Tab,p):=hd
 have:=Lib.cells_of_tab Tryz.underlying259 Tryz.underlying235 (by kernel_rfl) (by kernel_rfl) hd'
 unfold Lib.TabIs
 rw [hvar,← this]
abbrev allLaid : List (String × DataW Unit) := [("math/bits.deBruijn32tab", Rows.laid_math_bits_deBruijn32tab), ("math/bits.deBruijn64tab", Rows.laid_math_bits_deBruijn64tab), ("internal/strconv.uint64pow10", Rows.laid_internal_strconv_uint64pow10), ("strconv.ErrRange", Rows.laid_strconv_ErrRange), ("strconv.ErrSyntax", Rows.laid_strconv_ErrSyntax), ("seine/letters.shapes", Rows.laid_seine_letters_shapes)]
theorem laid5_of {W:World} (h:laidMetH Tryz.prog allLaid W):Laid5 W:=by
 rw [MakeChecks.laidMetH_plain _ _ _ (by kernel_rfl)] at h
 exact ⟨table (Lib.laidMet.reads h (by simp [allLaid])),error_laid (Lib.laidMet.reads h (by simp [allLaid])),pow_laid (Lib.laidMet.reads h (by simp [allLaid]))⟩
theorem bulk_part {H:Type} {d:DataW H} : ∀ {l:List (DataW H)},d ∈ l→Rows.uptoBulk d≤Rows.uptoBulkAll l
 | [],h=>by simp at h
 | x :: r,h=>by
   rw [Rows.uptoBulkAll]
   rcases List.mem_cons.1 h with rfl|h
   · omega
   · have:=bulk_part h;omega
theorem args_kept {H:Type} {enc:TypeId × Value→H} {W W':World} (hb:Below W.heap.size W W'):∀ (ts:List TypeId) (vs:List Value) (ds:List (DataW H)) (ps:List MemPlace),
   (∀ t ∈ ts,Tryz.prog.readableRec t=true∧t < Tryz.prog.types.size)→(∀ x ∈ ps,x.block < W.heap.size) →
   DataW.TrodAll enc Tryz.prog W 0 (fun _=>true) true ts vs ds ps→DataW.TrodAll enc Tryz.prog W' 0 (fun b=>decide (b < W.heap.size)) true ts vs ds ps
 | [],[],[],_,_,_,h=>h
 | t :: ts,v :: vs,d :: ds,ps,hr,hlt,⟨p,q,h1,h2,e⟩=>by
   subst e
   refine ⟨p,q,?_,?_,rfl⟩
   · exact Below.trod laidOut (hr t (by simp)).1 (hr t (by simp)).2 h1 hb (fun x hx=>hlt x (by simp [hx]))
   · exact args_kept hb ts vs ds q (fun t' ht'=>hr t' (by simp [ht'])) (fun x hx=>hlt x (by simp [hx])) h2
 | [],[],_ :: _,_,_,_,h=>h.elim
 | [],_ :: _,_,_,_,_,h=>h.elim
 | _ :: _,[],_,_,_,_,h=>h.elim
 | _ :: _,_ :: _,[],_,_,_,h=>h.elim
theorem law_post {H:Type} {enc:TypeId × Value→H} {f:Func} {s:ChangeSpec} {W W':World} {args:Array Value} {ds gs:List (DataW H)} {before:List MemPlace}
   (hW:DataW.Whole enc Tryz.prog f.params.toList s.vars false W args.toList ds gs before) (hv:s.vars=[]) (hf:f.resultTypes=#[4])
   (hr:∀ t ∈ f.params.toList,Tryz.prog.readableRec t=true∧t < Tryz.prog.types.size)
   (hs1:(s.fn H (ds++gs)).results=[.lit (.bool true)]) (hs2:(s.fn H (ds++gs)).args=ds) (hs3:(s.fn H (ds++gs)).vars=[]) (hb:Below W.heap.size W W') :
   s.post enc Tryz.prog f false true false false W args (.bool true) W':=by
 have hlt:∀ x ∈ before,x.block < W.heap.size:=fun x hx=>hW.lt x hx
 have hW0:=hW
 obtain ⟨p,q,hA,hV,e,_,_⟩:=hW0
 rw [hv] at hV
 obtain ⟨rfl,rfl⟩:=trodVars_none hV
 rw [List.append_nil] at e
 subst e
 refine ⟨ds,[],before,[],before,[],hW,?_,?_,?_,World.keptBut_mono (fun x hx=>⟨hx,.inr (.inl hx)⟩) (hb.frame (· ∈ before)),fun h=>by cases h⟩
 · rw [hs1,hf];exact trodAll_mk1 (shut_bool Tryz.underlying4 _)
 · rw [hs2];exact args_kept hb _ _ _ _ hr hlt hA
 · rw [hs3,hv];rfl
noncomputable def laidWorld (os:Os):World:=World.laidAll Tryz.prog os allLaid
theorem laidWorld_met (os:Os) (args:Array Value):laidMet Tryz.prog allLaid ((laidWorld os).forCall (fun _ _=>0) ⟨#[],args,[]⟩).memory:=
 laidMet_laidAll args (by kernel_rfl) (by kernel_rfl)
open Go.ChangeShapes Go.WideShapes Go.ChangeAt Go.RowKit
theorem weights_all6 {H:Type} {P:Program} {e:TypeId} {d:DataW H} {m:Nat} : ∀ {l:List (DataW H)},d ∈ l→m ∈ d.weights P e→m ∈ DataW.weightsAll P e l
 | [],h,_=>by simp at h
 | x :: r,h,hm=>by
   rw [DataW.weightsAll]
   rcases List.mem_cons.1 h with rfl|h
   · exact List.mem_append_left _ hm
   · exact List.mem_append_right _ (weights_all6 h hm)
theorem cells_out {W:World} {b o n:Nat} {cs:List Value} (hn:0 < n) (h:W.cells? 0 ⟨b,o,none⟩ n=some cs):b < W.heap.size∧cs.length=n∧∀ (j:Nat) u,cs[j]? = some u→W.cell? ⟨b,o+j,none⟩=some u:=by
 obtain ⟨_,hl,hat⟩:=World.cells?_some h
 simp only [add_at] at hat
 have g0:=hat 0 hn
 rw [List.getElem?_eq_getElem (by omega)] at g0
 exact ⟨World.block_lt_of_cell? W _ g0,hl,fun j u hu=>(hat j (by have:=(List.getElem?_eq_some_iff.1 hu).1;omega)).trans hu⟩
theorem spot_out {W:World} {a:Addr} {n:Nat} {cs:List Value} (hn:0 < n) (h:W.cells? 0 a n=some cs):a.spot=none:=by
 obtain ⟨_,hl,hat⟩:=World.cells?_some h
 have h2:=hat 0 (by omega)
 rw [List.getElem?_eq_getElem (by omega)] at h2
 have:=World.cell?_spot h2
 obtain ⟨b,o,spot⟩:=a
 simpa [Addr.add] using this
def DeepF (f:FieldT):Prop:=∀ x,x ∈ f.dirs→SlimM x.2
def DeepD (d:DefnT):Prop:=∀ f,f ∈ d.fields→DeepF f
def DeepS (S:SchT):Prop:=∀ d,d ∈ S.defs→DeepD d
theorem ocInt:Tryz.prog.cellsOf 3=1:=by kernel_rfl
theorem ocStr:Tryz.prog.cellsOf 9=1:=by kernel_rfl
theorem ocBool:Tryz.prog.cellsOf 4=1:=by kernel_rfl
theorem ocSM:Tryz.prog.cellsOf 56=1:=by kernel_rfl
theorem ocSS:Tryz.prog.cellsOf 32=1:=by kernel_rfl
theorem ocSP:Tryz.prog.cellsOf 35=1:=by kernel_rfl
theorem ocSD:Tryz.prog.cellsOf 44=1:=by kernel_rfl
theorem ocSF:Tryz.prog.cellsOf 34=1:=by kernel_rfl
theorem ocSDf:Tryz.prog.cellsOf 22=1:=by kernel_rfl
theorem ocTy:Tryz.prog.cellsOf 43=3:=by kernel_rfl
theorem ocVal:Tryz.prog.cellsOf 58=5:=by kernel_rfl
theorem ocPar:Tryz.prog.cellsOf 60=10:=by kernel_rfl
theorem ocDir:Tryz.prog.cellsOf 83=2:=by kernel_rfl
theorem ocFld:Tryz.prog.cellsOf 46=6:=by kernel_rfl
theorem ocDef:Tryz.prog.cellsOf 37=6:=by kernel_rfl
theorem ocSch:Tryz.prog.cellsOf 24=3:=by kernel_rfl
theorem obStr:Tryz.prog.bytesOf 9=16:=by kernel_rfl
theorem obPar:Tryz.prog.bytesOf 60=136:=by kernel_rfl
theorem obDir:Tryz.prog.bytesOf 83=40:=by kernel_rfl
theorem obFld:Tryz.prog.bytesOf 46=96:=by kernel_rfl
theorem obDef:Tryz.prog.bytesOf 37=120:=by kernel_rfl
theorem list_2 {cs:List Value} (h:cs.length=2):∃ c0 c1,cs=[c0,c1]:=by
 match cs,h with
 | [c0,c1],_=>exact ⟨_,_,rfl⟩
theorem list_3 {cs:List Value} (h:cs.length=3):∃ c0 c1 c2,cs=[c0,c1,c2]:=by
 match cs,h with
 | [c0,c1,c2],_=>exact ⟨_,_,_,rfl⟩
theorem list_6 {cs:List Value} (h:cs.length=6):∃ c0 c1 c2 c3 c4 c5,cs=[c0,c1,c2,c3,c4,c5]:=by
 match cs,h with
 | [c0,c1,c2,c3,c4,c5],_=>exact ⟨_,_,_,_,_,_,rfl⟩
theorem list_10 {cs:List Value} (h:cs.length=10):∃ c0 c1 c2 c3 c4 c5 c6 c7 c8 c9,cs=[c0,c1,c2,c3,c4,c5,c6,c7,c8,c9]:=by
 match cs,h with
 | [c0,c1,c2,c3,c4,c5,c6,c7,c8,c9],_=>exact ⟨_,_,_,_,_,_,_,_,_,_,rfl⟩
theorem open_ty {H:Type} {enc:TypeId × Value→H} {W:World} {fuel:Nat} {c0 c1 c2:Value} {x:DataW H × List MemPlace} (h:DataW.trod enc Tryz.prog W 0 (fun _=>true) true fuel 43 [c0,c1,c2]=some x):∃ (n:ByteArray) (l m:Int),c0=.string n∧c1=.int .i64 l∧c2=.int .i64 m∧n.size≤9223372036854775807:=by
 obtain ⟨xs,n,rfl,rfl,hl,hxl,hf⟩:=DataW.trod_struct Tryz.underlying43 h
 have f0:DataW.trod enc Tryz.prog W 0 (fun _=>true) true n 9 [c0]=xs[0]?:=by have h':DataW.trod enc Tryz.prog W 0 (fun _=>true) true n 9 (([c0,c1,c2].drop 0).take (Tryz.prog.cellsOf 9))=xs[0]?:=hf 0 _ rfl;rw [ocStr] at h';exact h'
 have f1:DataW.trod enc Tryz.prog W 0 (fun _=>true) true n 3 [c1]=xs[1]?:=by have h':DataW.trod enc Tryz.prog W 0 (fun _=>true) true n 3 (([c0,c1,c2].drop 1).take (Tryz.prog.cellsOf 3))=xs[1]?:=hf 1 _ rfl;rw [ocInt] at h';exact h'
 have f2:DataW.trod enc Tryz.prog W 0 (fun _=>true) true n 3 [c2]=xs[2]?:=by have h':DataW.trod enc Tryz.prog W 0 (fun _=>true) true n 3 (([c0,c1,c2].drop 2).take (Tryz.prog.cellsOf 3))=xs[2]?:=hf 2 _ rfl;rw [ocInt] at h';exact h'
 match xs,hxl with
 | [y0,y1,y2],_ =>
   obtain ⟨t,e0,_,ht⟩:=DataW.trod_string Tryz.underlying9 (f0.trans rfl)
   obtain ⟨l,e1,_,_⟩:=DataW.trod_int Tryz.underlying3 (f1.trans rfl)
   obtain ⟨m,e2,_,_⟩:=DataW.trod_int Tryz.underlying3 (f2.trans rfl)
   simp only [List.cons.injEq,and_true] at e0 e1 e2
   exact ⟨t,l,m,e0,e1,e2,ht⟩
open Go.ChangeShapes Go.WideShapes Go.ChangeAt Go.RowKit
mutual
theorem vat_vp {w:World} {B:Nat} : ∀ (v:VT) (c0 c1 c2 c3 c4:Value),VAt w B v c0 c1 c2 c3 c4→VP w (fun b=>b < B) v c0 c1 c2 c3 c4
 | .mk k n s l m,c0,c1,c2,c3,c4,h=>by
   unfold VAt at h
   unfold VP
   obtain ⟨h0,h1,h2,hs,⟨A,c,h3,g3,h4⟩,A',c',h5,g5,h6⟩:=h
   exact ⟨h0,h1,h2,hs,⟨A,c,h3,g3,lat_lp l A 0 h4⟩,A',c',h5,g5,mat_mp m A' 0 h6⟩
theorem lat_lp {w:World} {B:Nat} : ∀ (l:VL) (A:Option Addr) (j:Nat),LAt w B l A j→LP w (fun b=>b < B) l A j
 | .nil,_,_,_=>by unfold LP;trivial
 | .cons v t,A,j,h=>by
   unfold LAt at h
   unfold LP
   obtain ⟨⟨b,o,c0,c1,c2,c3,c4,hA,hlt,hf,hv⟩,ht⟩:=h
   exact ⟨⟨b,o,c0,c1,c2,c3,c4,hA,hlt,hf,vat_vp v _ _ _ _ _ hv⟩,lat_lp t A (j+1) ht⟩
theorem mat_mp {w:World} {B:Nat} : ∀ (l:VM) (A:Option Addr) (j:Nat),MAt w B l A j→MP w (fun b=>b < B) l A j
 | .nil,_,_,_=>by unfold MP;trivial
 | .cons nm v t,A,j,h=>by
   unfold MAt at h
   unfold MP
   obtain ⟨⟨b,o,c0,c1,c2,c3,c4,hA,hlt,hn,hz,hf,hv⟩,ht⟩:=h
   exact ⟨⟨b,o,c0,c1,c2,c3,c4,hA,hlt,hn,hz,hf,vat_vp v _ _ _ _ _ hv⟩,mat_mp t A (j+1) ht⟩
end
theorem vat_ts {w:World} {B:Nat} {v:VT} {c0 c1 c2 c3 c4:Value} (h:VAt w B v c0 c1 c2 c3 c4):∃ A3 k3 A4 k4,c0=.int .i64 v.kd∧c1=.int .i64 v.nn∧c2=.string v.ss∧c3=.slice A3 v.ls.len k3∧c4=.slice A4 v.ms.len k4∧TS w (fun b=>b < B) (encV v) [.int .i64 v.kd,.int .i64 v.nn,.string v.ss,.slice A3 v.ls.len k3,.slice A4 v.ms.len k4]:=by
 have ht:=vp_ts _ _ _ _ _ _ (vat_vp v _ _ _ _ _ h)
 obtain ⟨k,n,s,l,m⟩:=v
 unfold VAt at h
 obtain ⟨rfl,rfl,rfl,_,⟨A,c,rfl,_,_⟩,A',c',rfl,_,_⟩:=h
 exact ⟨A,c,A',c',rfl,rfl,rfl,rfl,rfl,ht⟩
end Go.Proofs.YtaekdfcpbepepaaGreatDoor
