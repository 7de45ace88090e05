/- What every law of value needs around its walk: the listed variables as they are laid, the arguments opened and read as they did, a world to show that the row is not empty. -/
import Derived.Test.YtaekdfcpbepepaaGreatDoorCards
import Derived.Test.YtaekdfcpbepepaaGreatDoorTie
import Derived.Test.YtaekdfcpbepepaaGreatDoorQb19
import Derived.OpenShut
import Derived.Deep.DeepHandedRow
import Derived.Lib.LaidU8
import Derived.Lay
import Derived.MakeChecks
set_option maxRecDepth 100000
set_option maxHeartbeats 4000000
namespace Go.Proofs.YtaekdfcpbepepaaGreatDoor
open Go.ChangeShapes Go.WideShapes Go.ChangeAt Go.RowKit
theorem own:ownKnob Tryz.prog.godebug=none:=by kernel_rfl
theorem laidOut:laidOutB Tryz.prog=true:=by kernel_rfl
theorem gTab : Tryz.prog.globalNamed "seine/letters.shapes" = some 0 := by kernel_rfl
theorem gTabType:(Tryz.prog.globals[0]?).map (·.type)=some 225:=by kernel_rfl
theorem cellsTab:Tryz.prog.cellsOf 225=12:=by kernel_rfl
theorem cellsShape:Tryz.prog.cellsOf 224=3:=by kernel_rfl
theorem cellsInt:Tryz.prog.cellsOf 3=1:=by kernel_rfl
theorem one_shape {w:World} {cs:List Value} {m:Nat} {a b c:Int} {p:List MemPlace} (h:DataW.trod (fun _=>()) Tryz.prog w 0 (fun _=>true) false m 224 cs=some (DataW.agg [.lit (.int .i64 a),.lit (.int .i64 b),.lit (.int .i64 c)],p)) :
   cs=[.int .i64 a,.int .i64 b,.int .i64 c]:=by
 obtain ⟨y0,y1,y2,n,hx,hl,h0,h1,h2⟩:=Go.Deep.trod_struct3 Tryz.underlying224 h
 rw [cellsShape] at hl
 simp only [cellsInt] at h0 h1 h2
 obtain ⟨n0,c0,rfl,_⟩:=DataW.trod_int Tryz.underlying3 h0
 obtain ⟨n1,c1,rfl,_⟩:=DataW.trod_int Tryz.underlying3 h1
 obtain ⟨n2,c2,rfl,_⟩:=DataW.trod_int Tryz.underlying3 h2
 simp only [Prod.mk.injEq,DataW.agg.injEq,List.cons.injEq,DataW.lit.injEq,Lit.int.injEq,true_and,and_true] at hx
 obtain ⟨⟨rfl,rfl,rfl⟩,_⟩:=hx
 match cs,hl with
 | [x,y,z],_ =>
   simp at c0 c1 c2
   subst c0 c1 c2
   rfl
theorem table {W : World} (h : Lib.VarReads Tryz.prog W "seine/letters.shapes" Rows.laid_seine_letters_shapes) : TabAt W := by
 obtain ⟨g',t',cs,fuel,p,hg',ht',hvar,hd⟩:=h
 obtain rfl:=Option.some.inj (gTab.symm.trans hg')
 obtain rfl:=Option.some.inj (gTabType.symm.trans ht')
 obtain ⟨xs,m,_,hx,hl,hxl,hi⟩:=DataW.trod_array Tryz.underlying225 hd
 rw [cellsTab] at hl
 simp only [cellsShape] at hi
 match xs,hxl with
 | [x0,x1,x2,x3],_ =>
   simp only [Rows.laid_seine_letters_shapes,List.map_cons,List.map_nil,Prod.mk.injEq,DataW.agg.injEq,List.cons.injEq,and_true] at hx
   obtain ⟨⟨e0,e1,e2,e3⟩,_⟩:=hx
   have a0:=one_shape (p:=x0.2) ((hi 0 (by omega)).trans (by rw [e0];rfl))
   have a1:=one_shape (p:=x1.2) ((hi 1 (by omega)).trans (by rw [e1];rfl))
   have a2:=one_shape (p:=x2.2) ((hi 2 (by omega)).trans (by rw [e2];rfl))
   have a3:=one_shape (p:=x3.2) ((hi 3 (by omega)).trans (by rw [e3];rfl))
   have hcs:cs.toList=[.int .i64 0,.int .i64 128,.int .i64 0,.int .i64 192,.int .i64 224,.int .i64 128,.int .i64 224,.int .i64 240,.int .i64 2048,.int .i64 240,.int .i64 248,.int .i64 65536]:=by
    have hl':cs.toList.length=12:=hl
    generalize cs.toList=l at *
    match l,hl' with
    | [b0,b1,b2,b3,b4,b5,b6,b7,b8,b9,b10,b11],_ =>
      simp at a0 a1 a2 a3
      obtain ⟨rfl,rfl,rfl⟩:=a0
      obtain ⟨rfl,rfl,rfl⟩:=a1
      obtain ⟨rfl,rfl,rfl⟩:=a2
      obtain ⟨rfl,rfl,rfl⟩:=a3
      rfl
   intro j z hz
   rw [World.var?_cell gTab hvar j]
   have:cs[j]? = cs.toList[j]?:=by simp
   rw [this,hcs]
   have hj:j < 12:=(List.getElem?_eq_some_iff.1 hz).1
   match j,hj,hz with
   | 0,_,hz|1,_,hz|2,_,hz|3,_,hz|4,_,hz|5,_,hz|6,_,hz|7,_,hz|8,_,hz|9,_,hz|10,_,hz|11,_,hz=>cases hz;rfl
theorem gErr : Tryz.prog.globalNamed "strconv.ErrRange" = some 2 := by kernel_rfl
theorem gErrType:(Tryz.prog.globals[2]?).map (·.type)=some 220:=by kernel_rfl
theorem error_laid {W : World} (h : Lib.VarReads Tryz.prog W "strconv.ErrRange" Rows.laid_strconv_ErrRange) : ∃ te pe, W.cell? ⟨2, 0, none⟩ = some (.iface te pe) := by
 obtain ⟨g',t',cs,fuel,p,hg',ht',hvar,hd⟩:=h
 obtain rfl:=Option.some.inj (gErr.symm.trans hg')
 obtain rfl:=Option.some.inj (gErrType.symm.trans ht')
 obtain ⟨_,u,v,e,_,_⟩:=iface_of_trod Tryz.underlying220 hd
 refine ⟨u,v,?_⟩
 rw [World.var?_cell gErr hvar 0]
 have:cs[0]? = cs.toList[0]?:=by simp
 rw [this,e]
 rfl
theorem gPowType:(Tryz.prog.globals[3]?).map (·.type)=some 259:=by kernel_rfl
theorem pow_laid {W : World} (h : Lib.VarReads Tryz.prog W "internal/strconv.uint64pow10" Rows.laid_internal_strconv_uint64pow10) : Lib.TabIs Tryz.prog W "internal/strconv.uint64pow10" .u64 Lib.pow10Tab := by
 obtain ⟨g',t',cs,fuel,p,hg',ht',hvar,hd⟩:=h
 obtain rfl:=Option.some.inj (gPow.symm.trans hg')
 obtain rfl:=Option.some.inj (gPowType.symm.trans ht')
 have hd':DataW.trod (fun _=>()) Tryz.prog W 0 (fun _=>true) false fuel 259 cs.toList=some (Lib.tabData .u64 Lib.pow10Tab,p):=hd
 have:=Lib.cells_of_tab Tryz.underlying259 Tryz.underlying235 (by kernel_rfl) (by kernel_rfl) hd'
 unfold Lib.TabIs
 rw [hvar,← this]
abbrev allLaid : List (String × DataW Unit) := [("math/bits.deBruijn32tab", Rows.laid_math_bits_deBruijn32tab), ("math/bits.deBruijn64tab", Rows.laid_math_bits_deBruijn64tab), ("internal/strconv.uint64pow10", Rows.laid_internal_strconv_uint64pow10), ("strconv.ErrRange", Rows.laid_strconv_ErrRange), ("strconv.ErrSyntax", Rows.laid_strconv_ErrSyntax), ("seine/letters.shapes", Rows.laid_seine_letters_shapes)]
theorem laid5_of {W:World} (h:laidMetH Tryz.prog allLaid W):Laid5 W:=by
 rw [MakeChecks.laidMetH_plain _ _ _ (by kernel_rfl)] at h
 exact ⟨table (Lib.laidMet.reads h (by simp [allLaid])),error_laid (Lib.laidMet.reads h (by simp [allLaid])),pow_laid (Lib.laidMet.reads h (by simp [allLaid]))⟩
theorem bulk_part {H:Type} {d:DataW H} : ∀ {l:List (DataW H)},d ∈ l→Rows.uptoBulk d≤Rows.uptoBulkAll l
 | [],h=>by simp at h
 | x :: r,h=>by
   rw [Rows.uptoBulkAll]
   rcases List.mem_cons.1 h with rfl|h
   · omega
   · have:=bulk_part h;omega
theorem args_kept {H:Type} {enc:TypeId × Value→H} {W W':World} (hb:Below W.heap.size W W'):∀ (ts:List TypeId) (vs:List Value) (ds:List (DataW H)) (ps:List MemPlace),
   (∀ t ∈ ts,Tryz.prog.readableRec t=true∧t < Tryz.prog.types.size)→(∀ x ∈ ps,x.block < W.heap.size) →
   DataW.TrodAll enc Tryz.prog W 0 (fun _=>true) true ts vs ds ps→DataW.TrodAll enc Tryz.prog W' 0 (fun b=>decide (b < W.heap.size)) true ts vs ds ps
 | [],[],[],_,_,_,h=>h
 | t :: ts,v :: vs,d :: ds,ps,hr,hlt,⟨p,q,h1,h2,e⟩=>by
   subst e
   refine ⟨p,q,?_,?_,rfl⟩
   · exact Below.trod laidOut (hr t (by simp)).1 (hr t (by simp)).2 h1 hb (fun x hx=>hlt x (by simp [hx]))
   · exact args_kept hb ts vs ds q (fun t' ht'=>hr t' (by simp [ht'])) (fun x hx=>hlt x (by simp [hx])) h2
 | [],[],_ :: _,_,_,_,h=>h.elim
 | [],_ :: _,_,_,_,_,h=>h.elim
 | _ :: _,[],_,_,_,_,h=>h.elim
 | _ :: _,_ :: _,[],_,_,_,h=>h.elim
theorem law_post {H:Type} {enc:TypeId × Value→H} {f:Func} {s:ChangeSpec} {W W':World} {args:Array Value} {ds gs:List (DataW H)} {before:List MemPlace}
   (hW:DataW.Whole enc Tryz.prog f.params.toList s.vars false W args.toList ds gs before) (hv:s.vars=[]) (hf:f.resultTypes=#[4])
   (hr:∀ t ∈ f.params.toList,Tryz.prog.readableRec t=true∧t < Tryz.prog.types.size)
   (hs1:(s.fn H (ds++gs)).results=[.lit (.bool true)]) (hs2:(s.fn H (ds++gs)).args=ds) (hs3:(s.fn H (ds++gs)).vars=[]) (hb:Below W.heap.size W W') :
   s.post enc Tryz.prog f false true false false W args (.bool true) W':=by
 have hlt:∀ x ∈ before,x.block < W.heap.size:=fun x hx=>hW.lt x hx
 have hW0:=hW
 obtain ⟨p,q,hA,hV,e,_,_⟩:=hW0
 rw [hv] at hV
 obtain ⟨rfl,rfl⟩:=trodVars_none hV
 rw [List.append_nil] at e
 subst e
 refine ⟨ds,[],before,[],before,[],hW,?_,?_,?_,World.keptBut_mono (fun x hx=>⟨hx,.inr (.inl hx)⟩) (hb.frame (· ∈ before)),fun h=>by cases h⟩
 · rw [hs1,hf];exact trodAll_mk1 (shut_bool Tryz.underlying4 _)
 · rw [hs2];exact args_kept hb _ _ _ _ hr hlt hA
 · rw [hs3,hv];rfl
noncomputable def laidWorld (os:Os):World:=World.laidAll Tryz.prog os allLaid
theorem laidWorld_met (os:Os) (args:Array Value):laidMet Tryz.prog allLaid ((laidWorld os).forCall (fun _ _=>0) ⟨#[],args,[]⟩).memory:=
 laidMet_laidAll args (by kernel_rfl) (by kernel_rfl)
open Go.ChangeShapes Go.WideShapes Go.ChangeAt Go.RowKit
theorem weights_all6 {H:Type} {P:Program} {e:TypeId} {d:DataW H} {m:Nat} : ∀ {l:List (DataW H)},d ∈ l→m ∈ d.weights P e→m ∈ DataW.weightsAll P e l
 | [],h,_=>by simp at h
 | x :: r,h,hm=>by
   rw [DataW.weightsAll]
   rcases List.mem_cons.1 h with rfl|h
   · exact List.mem_append_left _ hm
   · exact List.mem_append_right _ (weights_all6 h hm)
theorem cells_out {W:World} {b o n:Nat} {cs:List Value} (hn:0 < n) (h:W.cells? 0 ⟨b,o,none⟩ n=some cs):b < W.heap.size∧cs.length=n∧∀ (j:Nat) u,cs[j]? = some u→W.cell? ⟨b,o+j,none⟩=some u:=by
 obtain ⟨_,hl,hat⟩:=World.cells?_some h
 simp only [add_at] at hat
 have g0:=hat 0 hn
 rw [List.getElem?_eq_getElem (by omega)] at g0
 exact ⟨World.block_lt_of_cell? W _ g0,hl,fun j u hu=>(hat j (by have:=(List.getElem?_eq_some_iff.1 hu).1;omega)).trans hu⟩
theorem spot_out {W:World} {a:Addr} {n:Nat} {cs:List Value} (hn:0 < n) (h:W.cells? 0 a n=some cs):a.spot=none:=by
 obtain ⟨_,hl,hat⟩:=World.cells?_some h
 have h2:=hat 0 (by omega)
 rw [List.getElem?_eq_getElem (by omega)] at h2
 have:=World.cell?_spot h2
 obtain ⟨b,o,spot⟩:=a
 simpa [Addr.add] using this
def DeepF (f:FieldT):Prop:=∀ x,x ∈ f.dirs→SlimM x.2
def DeepD (d:DefnT):Prop:=∀ f,f ∈ d.fields→DeepF f
def DeepS (S:SchT):Prop:=∀ d,d ∈ S.defs→DeepD d
theorem ocInt:Tryz.prog.cellsOf 3=1:=by kernel_rfl
theorem ocStr:Tryz.prog.cellsOf 9=1:=by kernel_rfl
theorem ocBool:Tryz.prog.cellsOf 4=1:=by kernel_rfl
theorem ocSM:Tryz.prog.cellsOf 56=1:=by kernel_rfl
theorem ocSS:Tryz.prog.cellsOf 32=1:=by kernel_rfl
theorem ocSP:Tryz.prog.cellsOf 35=1:=by kernel_rfl
theorem ocSD:Tryz.prog.cellsOf 44=1:=by kernel_rfl
theorem ocSF:Tryz.prog.cellsOf 34=1:=by kernel_rfl
theorem ocSDf:Tryz.prog.cellsOf 22=1:=by kernel_rfl
theorem ocTy:Tryz.prog.cellsOf 43=3:=by kernel_rfl
theorem ocVal:Tryz.prog.cellsOf 58=5:=by kernel_rfl
theorem ocPar:Tryz.prog.cellsOf 60=10:=by kernel_rfl
theorem ocDir:Tryz.prog.cellsOf 83=2:=by kernel_rfl
theorem ocFld:Tryz.prog.cellsOf 46=6:=by kernel_rfl
theorem ocDef:Tryz.prog.cellsOf 37=6:=by kernel_rfl
theorem ocSch:Tryz.prog.cellsOf 24=3:=by kernel_rfl
theorem obStr:Tryz.prog.bytesOf 9=16:=by kernel_rfl
theorem obPar:Tryz.prog.bytesOf 60=136:=by kernel_rfl
theorem obDir:Tryz.prog.bytesOf 83=40:=by kernel_rfl
theorem obFld:Tryz.prog.bytesOf 46=96:=by kernel_rfl
theorem obDef:Tryz.prog.bytesOf 37=120:=by kernel_rfl
theorem list_2 {cs:List Value} (h:cs.length=2):∃ c0 c1,cs=[c0,c1]:=by
 match cs,h with
 | [c0,c1],_=>exact ⟨_,_,rfl⟩
theorem list_3 {cs:List Value} (h:cs.length=3):∃ c0 c1 c2,cs=[c0,c1,c2]:=by
 match cs,h with
 | [c0,c1,c2],_=>exact ⟨_,_,_,rfl⟩
theorem list_6 {cs:List Value} (h:cs.length=6):∃ c0 c1 c2 c3 c4 c5,cs=[c0,c1,c2,c3,c4,c5]:=by
 match cs,h with
 | [c0,c1,c2,c3,c4,c5],_=>exact ⟨_,_,_,_,_,_,rfl⟩
theorem list_10 {cs:List Value} (h:cs.length=10):∃ c0 c1 c2 c3 c4 c5 c6 c7 c8 c9,cs=[c0,c1,c2,c3,c4,c5,c6,c7,c8,c9]:=by
 match cs,h with
 | [c0,c1,c2,c3,c4,c5,c6,c7,c8,c9],_=>exact ⟨_,_,_,_,_,_,_,_,_,_,rfl⟩
theorem open_ty {H:Type} {enc:TypeId × Value→H} {W:World} {fuel:Nat} {c0 c1 c2:Value} {x:DataW H × List MemPlace} (h:DataW.trod enc Tryz.prog W 0 (fun _=>true) true fuel 43 [c0,c1,c2]=some x):∃ (n:ByteArray) (l m:Int),c0=.string n∧c1=.int .i64 l∧c2=.int .i64 m∧n.size≤9223372036854775807:=by
 obtain ⟨xs,n,rfl,rfl,hl,hxl,hf⟩:=DataW.trod_struct Tryz.underlying43 h
 have f0:DataW.trod enc Tryz.prog W 0 (fun _=>true) true n 9 [c0]=xs[0]?:=by have h':DataW.trod enc Tryz.prog W 0 (fun _=>true) true n 9 (([c0,c1,c2].drop 0).take (Tryz.prog.cellsOf 9))=xs[0]?:=hf 0 _ rfl;rw [ocStr] at h';exact h'
 have f1:DataW.trod enc Tryz.prog W 0 (fun _=>true) true n 3 [c1]=xs[1]?:=by have h':DataW.trod enc Tryz.prog W 0 (fun _=>true) true n 3 (([c0,c1,c2].drop 1).take (Tryz.prog.cellsOf 3))=xs[1]?:=hf 1 _ rfl;rw [ocInt] at h';exact h'
 have f2:DataW.trod enc Tryz.prog W 0 (fun _=>true) true n 3 [c2]=xs[2]?:=by have h':DataW.trod enc Tryz.prog W 0 (fun _=>true) true n 3 (([c0,c1,c2].drop 2).take (Tryz.prog.cellsOf 3))=xs[2]?:=hf 2 _ rfl;rw [ocInt] at h';exact h'
 match xs,hxl with
 | [y0,y1,y2],_ =>
   obtain ⟨t,e0,_,ht⟩:=DataW.trod_string Tryz.underlying9 (f0.trans rfl)
   obtain ⟨l,e1,_,_⟩:=DataW.trod_int Tryz.underlying3 (f1.trans rfl)
   obtain ⟨m,e2,_,_⟩:=DataW.trod_int Tryz.underlying3 (f2.trans rfl)
   simp only [List.cons.injEq,and_true] at e0 e1 e2
   exact ⟨t,l,m,e0,e1,e2,ht⟩
open Go.ChangeShapes Go.WideShapes Go.ChangeAt Go.RowKit
mutual
theorem vat_vp {w:World} {B:Nat} : ∀ (v:VT) (c0 c1 c2 c3 c4:Value),VAt w B v c0 c1 c2 c3 c4→VP w (fun b=>b < B) v c0 c1 c2 c3 c4
 | .mk k n s l m,c0,c1,c2,c3,c4,h=>by
   unfold VAt at h
   unfold VP
   obtain ⟨h0,h1,h2,hs,⟨A,c,h3,g3,h4⟩,A',c',h5,g5,h6⟩:=h
   exact ⟨h0,h1,h2,hs,⟨A,c,h3,g3,lat_lp l A 0 h4⟩,A',c',h5,g5,mat_mp m A' 0 h6⟩
theorem lat_lp {w:World} {B:Nat} : ∀ (l:VL) (A:Option Addr) (j:Nat),LAt w B l A j→LP w (fun b=>b < B) l A j
 | .nil,_,_,_=>by unfold LP;trivial
 | .cons v t,A,j,h=>by
   unfold LAt at h
   unfold LP
   obtain ⟨⟨b,o,c0,c1,c2,c3,c4,hA,hlt,hf,hv⟩,ht⟩:=h
   exact ⟨⟨b,o,c0,c1,c2,c3,c4,hA,hlt,hf,vat_vp v _ _ _ _ _ hv⟩,lat_lp t A (j+1) ht⟩
theorem mat_mp {w:World} {B:Nat} : ∀ (l:VM) (A:Option Addr) (j:Nat),MAt w B l A j→MP w (fun b=>b < B) l A j
 | .nil,_,_,_=>by unfold MP;trivial
 | .cons nm v t,A,j,h=>by
   unfold MAt at h
   unfold MP
   obtain ⟨⟨b,o,c0,c1,c2,c3,c4,hA,hlt,hn,hz,hf,hv⟩,ht⟩:=h
   exact ⟨⟨b,o,c0,c1,c2,c3,c4,hA,hlt,hn,hz,hf,vat_vp v _ _ _ _ _ hv⟩,mat_mp t A (j+1) ht⟩
end
theorem vat_ts {w:World} {B:Nat} {v:VT} {c0 c1 c2 c3 c4:Value} (h:VAt w B v c0 c1 c2 c3 c4):∃ A3 k3 A4 k4,c0=.int .i64 v.kd∧c1=.int .i64 v.nn∧c2=.string v.ss∧c3=.slice A3 v.ls.len k3∧c4=.slice A4 v.ms.len k4∧TS w (fun b=>b < B) (encV v) [.int .i64 v.kd,.int .i64 v.nn,.string v.ss,.slice A3 v.ls.len k3,.slice A4 v.ms.len k4]:=by
 have ht:=vp_ts _ _ _ _ _ _ (vat_vp v _ _ _ _ _ h)
 obtain ⟨k,n,s,l,m⟩:=v
 unfold VAt at h
 obtain ⟨rfl,rfl,rfl,_,⟨A,c,rfl,_,_⟩,A',c',rfl,_,_⟩:=h
 exact ⟨A,c,A',c',rfl,rfl,rfl,rfl,rfl,ht⟩
open Go.RowKit
theorem defn_len (x:DefnT):(encDefn x).len=6:=by unfold encDefn;simp only [TrS.len]
theorem pr_len (x:ByteArray × VT):(encPr x).len=6:=by unfold encPr;rw [TrS.len,encV_len]
theorem pr_cells {w:World} {P:Nat→Prop} {x:ByteArray × VT} {cs:List Value} (h:TS w P (encPr x) cs):∃ A3 k3 A4 k4,cs=[.string x.1,.int .i64 x.2.kd,.int .i64 x.2.nn,.string x.2.ss,.slice A3 x.2.ls.len k3,.slice A4 x.2.ms.len k4]∧x.1.size≤9223372036854775807∧TS w P (encV x.2) [.int .i64 x.2.kd,.int .i64 x.2.nn,.string x.2.ss,.slice A3 x.2.ls.len k3,.slice A4 x.2.ms.len k4]:=by
 unfold encPr at h
 simp only [TS,TP] at h
 obtain ⟨_,_,rfl,⟨rfl,h0⟩,h5⟩:=h
 obtain ⟨A3,k3,A4,k4,rfl,_⟩:=encv_cells h5
 exact ⟨A3,k3,A4,k4,rfl,h0,h5⟩
theorem str_one {w:World} {P:Nat→Prop} {x:ByteArray} {cs:List Value} (h:TS w P (encStr x) cs):cs=[.string x]∧x.size≤9223372036854775807:=by
 simp only [encStr,TS,TP] at h
 obtain ⟨_,_,rfl,⟨rfl,h0⟩,rfl⟩:=h
 exact ⟨rfl,h0⟩
theorem two_boxS {w:World} {g:Nat} {c0 c1:Value} {t:TypeId} (h:w.heap[g]? = some (.cells #[c0,c1] t (0,0))):w.cell? ⟨g,0,none⟩=some c0∧w.cell? ⟨g,1,none⟩=some c1:=by
 simp [World.cell?,h]
theorem all_take_end {α:Type} {l:List α} {p:α→Bool} (h:(l.take l.length).all p=true):l.all p=true:=by rwa [List.take_length] at h
theorem all_take_next {α:Type} {l:List α} {p:α→Bool} {q:Nat} {x:α} (h:(l.take q).all p=true) (hx:l[q]? = some x) (hp:p x=true):(l.take (q+1)).all p=true:=by
 rw [List.take_add_one,hx,List.all_append,h]
 simp [hp]
theorem all_take_no {α:Type} {l:List α} {p:α→Bool} {q:Nat} {x:α} (hx:l[q]? = some x) (hp:p x=false):l.all p=false:=by
 cases h:l.all p
 · rfl
 · have:=List.all_eq_true.1 h x (List.mem_of_getElem? hx)
   rw [hp] at this
   cases this
theorem allDef_any (fn:Nat) (l:List DefnT) (A:Option Addr) (c:Nat) (p:DefnT→Bool) (w:World) (B:Nat) (hB:B≤w.heap.size) (hl:l.length≤9223372036854775807) (hR:RowT w (fun b=>b < B) (rowOf encDefn l) A)
  (he:∀ (args:Array Value) (w:World),(callFunc fn args).run Tryz.prog w=.ok (.enter fn args) w) (hf:∀ x,x ∈ l→∀ (cs:List Value) (W:World),Below w.heap.size w W→TS W (fun b=>b < B) (encDefn x) cs→Calls Tryz.prog fn #[.agg cs.toArray] W fun e W'=>e=.returned (.bool (p x))∧Below W.heap.size W W') :
  Calls Tryz.prog 148 #[.slice A l.length c,.func (.func fn) #[] #[]] w fun e w'=>e=.returned (.bool (l.all p))∧Below w.heap.size w w':=by
 have HR:=Hd hR
 have HF:=Hd hf
 have HB:=Hd hB
 clear hR hf hB
 go_enter Tryz.func148,Tryz.ntmps148
 go_wp2_with fail
 go_loopg [9] l.length (fun g i wx=>∃ q:Nat,q+g=l.length∧i=.int .i64 q∧Aside ((l.take q).all p=true∧Below w.heap.size w wx))
 case atStart=>exact ⟨0,by omega,rfl,Blk.Aside.intro ⟨rfl,Below.refl _ _⟩⟩
 case round =>
  obtain ⟨q,hq,rfl,HX⟩:=hrel
  have HI:=Hd HX.out.1
  have BX:=Hd HX.out.2
  clear HX
  cases gk with
  | zero =>
    obtain rfl:q=l.length:=by omega
    have HE:=Hd (all_take_end HI.out)
    go_wp2_with fail
    go_ret
    exact ⟨by rw [HE.out];rfl,BX.out⟩
  | succ g =>
    have hqn:q < l.length:=by omega
    have hqn':(q:Int) < (l.length:Int):=by omega
    obtain ⟨x,hx⟩:∃ x,l[q]? = some x:=⟨_,List.getElem?_eq_getElem hqn⟩
    obtain ⟨b,o,cs,rfl,hb,hc,hT⟩:=rowOf_at 6 defn_len HR.out hx
    have HBL:=Hd (Nat.lt_of_lt_of_le hb HB.out)
    have hT':=TS.low (BX.out.mono HB.out) hT
    obtain ⟨Af,kf,Ax,kx,Ap,kp,Am,km,rfl,_⟩:=defn_cells hT
    have g0:=(BX.out.cell (p:=⟨b,o+q*6,none⟩) HBL.out).trans (hc 0 _ rfl)
    have g1:=(BX.out.cell (p:=⟨b,o+q*6+1,none⟩) HBL.out).trans (hc 1 _ rfl)
    have g2:=(BX.out.cell (p:=⟨b,o+q*6+2,none⟩) HBL.out).trans (hc 2 _ rfl)
    have g3:=(BX.out.cell (p:=⟨b,o+q*6+3,none⟩) HBL.out).trans (hc 3 _ rfl)
    have g4:=(BX.out.cell (p:=⟨b,o+q*6+4,none⟩) HBL.out).trans (hc 4 _ rfl)
    have g5:=(BX.out.cell (p:=⟨b,o+q*6+5,none⟩) HBL.out).trans (hc 5 _ rfl)
    have HN:=Hd (fun h=>all_take_next (p:=p) HI.out hx h)
    have HM:=Hd (fun h=>all_take_no (p:=p) hx h)
    have HT':=Hd hT'
    have CF:=Hd (HF.out x (List.mem_of_getElem? hx))
    generalize p x=px at CF HN HM
    clear hx hb hT hT' hc
    go_upto_region 4 with fail
    clear g0 g1 g2 g3 g4 g5
    have bn:=dbelow_new wr (.cells #[.int .i64 x.kind,.string x.name,.slice Af x.faces.length kf,.slice Ax x.fields.length kx,.slice Ap x.parts.length kp,.slice Am x.params.length km] 37)
    have B2:=Hd (BX.out.trans (bn.mono BX.out.size))
    have CF:=Hd (CF.out _ _ B2.out (TS.low (bn.mono (Nat.le_trans HB.out BX.out.size)) HT'.out))
    have Y2:=Hd (heap_alloc_new wr (.cells #[.int .i64 x.kind,.string x.name,.slice Af x.faces.length kf,.slice Ax x.fields.length kx,.slice Ap x.parts.length kp,.slice Am x.params.length km] 37))
    generalize wr.alloc (.cells #[.int .i64 x.kind,.string x.name,.slice Af x.faces.length kf,.slice Ax x.fields.length kx,.slice Ap x.parts.length kp,.slice Am x.params.length km] 37)=w2 at B2 Y2 CF ⊢
    generalize wr.heap.size=gb at Y2 ⊢
    obtain ⟨⟨g0,g1,g2,g3,g4,g5⟩,_⟩:=six_cells Y2.out
    clear bn
    go_wp2_with fail
    refine CF.out.mono ?_
    rintro e w3 ⟨rfl,hb3⟩
    have B3:=Hd (B2.out.trans (hb3.mono B2.out.size))
    clear hb3 g0 g1 g2 g3 g4 g5 B2 Y2
    cases px with
    | false =>
      have HE:=Hd (HM.out rfl)
      go_wp2_with fail
      go_ret
      exact ⟨by rw [HE.out];rfl,B3.out⟩
    | true =>
      have HE:=Hd (HN.out rfl)
      go_wp2_with fail
      go_roundg g
      case measure=>omega
      case rel=>exact ⟨q+1,by omega,by go_num,Blk.Aside.intro ⟨HE.out,B3.out⟩⟩
theorem allFld_any (fn:Nat) (l:List FieldT) (A:Option Addr) (c:Nat) (p:FieldT→Bool) (w:World) (B:Nat) (hB:B≤w.heap.size) (hl:l.length≤9223372036854775807) (hR:RowT w (fun b=>b < B) (rowOf encField l) A)
  (he:∀ (args:Array Value) (w:World),(callFunc fn args).run Tryz.prog w=.ok (.enter fn args) w) (hf:∀ x,x ∈ l→∀ (cs:List Value) (W:World),Below w.heap.size w W→TS W (fun b=>b < B) (encField x) cs→Calls Tryz.prog fn #[.agg cs.toArray] W fun e W'=>e=.returned (.bool (p x))∧Below W.heap.size W W') :
  Calls Tryz.prog 192 #[.slice A l.length c,.func (.func fn) #[] #[]] w fun e w'=>e=.returned (.bool (l.all p))∧Below w.heap.size w w':=by
 have HR:=Hd hR
 have HF:=Hd hf
 have HB:=Hd hB
 clear hR hf hB
 go_enter Tryz.func192,Tryz.ntmps192
 go_wp2_with fail
 go_loopg [9] l.length (fun g i wx=>∃ q:Nat,q+g=l.length∧i=.int .i64 q∧Aside ((l.take q).all p=true∧Below w.heap.size w wx))
 case atStart=>exact ⟨0,by omega,rfl,Blk.Aside.intro ⟨rfl,Below.refl _ _⟩⟩
 case round =>
  obtain ⟨q,hq,rfl,HX⟩:=hrel
  have HI:=Hd HX.out.1
  have BX:=Hd HX.out.2
  clear HX
  cases gk with
  | zero =>
    obtain rfl:q=l.length:=by omega
    have HE:=Hd (all_take_end HI.out)
    go_wp2_with fail
    go_ret
    exact ⟨by rw [HE.out];rfl,BX.out⟩
  | succ g =>
    have hqn:q < l.length:=by omega
    have hqn':(q:Int) < (l.length:Int):=by omega
    obtain ⟨x,hx⟩:∃ x,l[q]? = some x:=⟨_,List.getElem?_eq_getElem hqn⟩
    obtain ⟨b,o,cs,rfl,hb,hc,hT⟩:=rowOf_at 6 len_fld HR.out hx
    have HBL:=Hd (Nat.lt_of_lt_of_le hb HB.out)
    have hT':=TS.low (BX.out.mono HB.out) hT
    obtain ⟨Ap,kp,Ad,kd,rfl,_⟩:=fld_cells hT
    have g0:=(BX.out.cell (p:=⟨b,o+q*6,none⟩) HBL.out).trans (hc 0 _ rfl)
    have g1:=(BX.out.cell (p:=⟨b,o+q*6+1,none⟩) HBL.out).trans (hc 1 _ rfl)
    have g2:=(BX.out.cell (p:=⟨b,o+q*6+2,none⟩) HBL.out).trans (hc 2 _ rfl)
    have g3:=(BX.out.cell (p:=⟨b,o+q*6+3,none⟩) HBL.out).trans (hc 3 _ rfl)
    have g4:=(BX.out.cell (p:=⟨b,o+q*6+4,none⟩) HBL.out).trans (hc 4 _ rfl)
    have g5:=(BX.out.cell (p:=⟨b,o+q*6+5,none⟩) HBL.out).trans (hc 5 _ rfl)
    have HN:=Hd (fun h=>all_take_next (p:=p) HI.out hx h)
    have HM:=Hd (fun h=>all_take_no (p:=p) hx h)
    have HT':=Hd hT'
    have CF:=Hd (HF.out x (List.mem_of_getElem? hx))
    generalize p x=px at CF HN HM
    clear hx hb hT hT' hc
    go_upto_region 4 with fail
    clear g0 g1 g2 g3 g4 g5
    have bn:=dbelow_new wr (.cells #[.string x.name,.slice Ap x.params.length kp,.string x.tn,.int .i64 x.tl,.int .i64 x.tm,.slice Ad x.dirs.length kd] 46)
    have B2:=Hd (BX.out.trans (bn.mono BX.out.size))
    have CF:=Hd (CF.out _ _ B2.out (TS.low (bn.mono (Nat.le_trans HB.out BX.out.size)) HT'.out))
    have Y2:=Hd (heap_alloc_new wr (.cells #[.string x.name,.slice Ap x.params.length kp,.string x.tn,.int .i64 x.tl,.int .i64 x.tm,.slice Ad x.dirs.length kd] 46))
    generalize wr.alloc (.cells #[.string x.name,.slice Ap x.params.length kp,.string x.tn,.int .i64 x.tl,.int .i64 x.tm,.slice Ad x.dirs.length kd] 46)=w2 at B2 Y2 CF ⊢
    generalize wr.heap.size=gb at Y2 ⊢
    obtain ⟨⟨g0,g1,g2,g3,g4,g5⟩,_⟩:=six_cells Y2.out
    clear bn
    go_wp2_with fail
    refine CF.out.mono ?_
    rintro e w3 ⟨rfl,hb3⟩
    have B3:=Hd (B2.out.trans (hb3.mono B2.out.size))
    clear hb3 g0 g1 g2 g3 g4 g5 B2 Y2
    cases px with
    | false =>
      have HE:=Hd (HM.out rfl)
      go_wp2_with fail
      go_ret
      exact ⟨by rw [HE.out];rfl,B3.out⟩
    | true =>
      have HE:=Hd (HN.out rfl)
      go_wp2_with fail
      go_roundg g
      case measure=>omega
      case rel=>exact ⟨q+1,by omega,by go_num,Blk.Aside.intro ⟨HE.out,B3.out⟩⟩
theorem allPar_any (fn:Nat) (l:List VarT) (A:Option Addr) (c:Nat) (p:VarT→Bool) (w:World) (B:Nat) (hB:B≤w.heap.size) (hl:l.length≤9223372036854775807) (hR:RowT w (fun b=>b < B) (rowOf encVar l) A)
  (he:∀ (args:Array Value) (w:World),(callFunc fn args).run Tryz.prog w=.ok (.enter fn args) w) (hf:∀ x,x ∈ l→∀ (cs:List Value) (W:World),Below w.heap.size w W→TS W (fun b=>b < B) (encVar x) cs→Calls Tryz.prog fn #[.agg cs.toArray] W fun e W'=>e=.returned (.bool (p x))∧Below W.heap.size W W') :
  Calls Tryz.prog 193 #[.slice A l.length c,.func (.func fn) #[] #[]] w fun e w'=>e=.returned (.bool (l.all p))∧Below w.heap.size w w':=by
 have HR:=Hd hR
 have HF:=Hd hf
 have HB:=Hd hB
 clear hR hf hB
 go_enter Tryz.func193,Tryz.ntmps193
 go_wp2_with fail
 go_loopg [9] l.length (fun g i wx=>∃ q:Nat,q+g=l.length∧i=.int .i64 q∧Aside ((l.take q).all p=true∧Below w.heap.size w wx))
 case atStart=>exact ⟨0,by omega,rfl,Blk.Aside.intro ⟨rfl,Below.refl _ _⟩⟩
 case round =>
  obtain ⟨q,hq,rfl,HX⟩:=hrel
  have HI:=Hd HX.out.1
  have BX:=Hd HX.out.2
  clear HX
  cases gk with
  | zero =>
    obtain rfl:q=l.length:=by omega
    have HE:=Hd (all_take_end HI.out)
    go_wp2_with fail
    go_ret
    exact ⟨by rw [HE.out];rfl,BX.out⟩
  | succ g =>
    have hqn:q < l.length:=by omega
    have hqn':(q:Int) < (l.length:Int):=by omega
    obtain ⟨x,hx⟩:∃ x,l[q]? = some x:=⟨_,List.getElem?_eq_getElem hqn⟩
    obtain ⟨b,o,cs,rfl,hb,hc,hT⟩:=rowOf_at 10 len_par HR.out hx
    have HBL:=Hd (Nat.lt_of_lt_of_le hb HB.out)
    have hT':=TS.low (BX.out.mono HB.out) hT
    obtain ⟨A3,k3,A4,k4,rfl,_⟩:=var_cells hT
    have g0:=(BX.out.cell (p:=⟨b,o+q*10,none⟩) HBL.out).trans (hc 0 _ rfl)
    have g1:=(BX.out.cell (p:=⟨b,o+q*10+1,none⟩) HBL.out).trans (hc 1 _ rfl)
    have g2:=(BX.out.cell (p:=⟨b,o+q*10+2,none⟩) HBL.out).trans (hc 2 _ rfl)
    have g3:=(BX.out.cell (p:=⟨b,o+q*10+3,none⟩) HBL.out).trans (hc 3 _ rfl)
    have g4:=(BX.out.cell (p:=⟨b,o+q*10+4,none⟩) HBL.out).trans (hc 4 _ rfl)
    have g5:=(BX.out.cell (p:=⟨b,o+q*10+5,none⟩) HBL.out).trans (hc 5 _ rfl)
    have g6:=(BX.out.cell (p:=⟨b,o+q*10+6,none⟩) HBL.out).trans (hc 6 _ rfl)
    have g7:=(BX.out.cell (p:=⟨b,o+q*10+7,none⟩) HBL.out).trans (hc 7 _ rfl)
    have g8:=(BX.out.cell (p:=⟨b,o+q*10+8,none⟩) HBL.out).trans (hc 8 _ rfl)
    have g9:=(BX.out.cell (p:=⟨b,o+q*10+9,none⟩) HBL.out).trans (hc 9 _ rfl)
    have HN:=Hd (fun h=>all_take_next (p:=p) HI.out hx h)
    have HM:=Hd (fun h=>all_take_no (p:=p) hx h)
    have HT':=Hd hT'
    have CF:=Hd (HF.out x (List.mem_of_getElem? hx))
    generalize p x=px at CF HN HM
    clear hx hb hT hT' hc
    go_upto_region 4 with fail
    clear g0 g1 g2 g3 g4 g5 g6 g7 g8 g9
    have bn:=dbelow_new wr (.cells #[.string x.name,.string x.tn,.int .i64 x.tl,.int .i64 x.tm,.bool x.has,.int .i64 x.v.kd,.int .i64 x.v.nn,.string x.v.ss,.slice A3 x.v.ls.len k3,.slice A4 x.v.ms.len k4] 60)
    have B2:=Hd (BX.out.trans (bn.mono BX.out.size))
    have CF:=Hd (CF.out _ _ B2.out (TS.low (bn.mono (Nat.le_trans HB.out BX.out.size)) HT'.out))
    have Y2:=Hd (heap_alloc_new wr (.cells #[.string x.name,.string x.tn,.int .i64 x.tl,.int .i64 x.tm,.bool x.has,.int .i64 x.v.kd,.int .i64 x.v.nn,.string x.v.ss,.slice A3 x.v.ls.len k3,.slice A4 x.v.ms.len k4] 60))
    generalize wr.alloc (.cells #[.string x.name,.string x.tn,.int .i64 x.tl,.int .i64 x.tm,.bool x.has,.int .i64 x.v.kd,.int .i64 x.v.nn,.string x.v.ss,.slice A3 x.v.ls.len k3,.slice A4 x.v.ms.len k4] 60)=w2 at B2 Y2 CF ⊢
    generalize wr.heap.size=gb at Y2 ⊢
    obtain ⟨⟨g0,g1,g2,g3,g4,g5,g6,g7,g8,g9⟩,_⟩:=ten_cells Y2.out
    clear bn
    go_wp2_with fail
    refine CF.out.mono ?_
    rintro e w3 ⟨rfl,hb3⟩
    have B3:=Hd (B2.out.trans (hb3.mono B2.out.size))
    clear hb3 g0 g1 g2 g3 g4 g5 g6 g7 g8 g9 B2 Y2
    cases px with
    | false =>
      have HE:=Hd (HM.out rfl)
      go_wp2_with fail
      go_ret
      exact ⟨by rw [HE.out];rfl,B3.out⟩
    | true =>
      have HE:=Hd (HN.out rfl)
      go_wp2_with fail
      go_roundg g
      case measure=>omega
      case rel=>exact ⟨q+1,by omega,by go_num,Blk.Aside.intro ⟨HE.out,B3.out⟩⟩
theorem allDir_any (fn:Nat) (pl:Value) (l:List DirT) (A:Option Addr) (c:Nat) (p:DirT→Bool) (w:World) (B:Nat) (hB:B≤w.heap.size) (hl:l.length≤9223372036854775807) (hR:RowT w (fun b=>b < B) (rowOf encD l) A)
  (he:∀ (args:Array Value) (w:World),(callFunc fn args).run Tryz.prog w=.ok (.enter fn args) w) (hf:∀ x,x ∈ l→∀ (cs:List Value) (W:World),Below w.heap.size w W→TS W (fun b=>b < B) (encD x) cs→Calls Tryz.prog fn #[pl,.agg cs.toArray] W fun e W'=>e=.returned (.bool (p x))∧Below W.heap.size W W') :
  Calls Tryz.prog 194 #[.slice A l.length c,.func (.func fn) #[pl] #[]] w fun e w'=>e=.returned (.bool (l.all p))∧Below w.heap.size w w':=by
 have HR:=Hd hR
 have HF:=Hd hf
 have HB:=Hd hB
 clear hR hf hB
 go_enter Tryz.func194,Tryz.ntmps194
 go_wp2_with fail
 go_loopg [9] l.length (fun g i wx=>∃ q:Nat,q+g=l.length∧i=.int .i64 q∧Aside ((l.take q).all p=true∧Below w.heap.size w wx))
 case atStart=>exact ⟨0,by omega,rfl,Blk.Aside.intro ⟨rfl,Below.refl _ _⟩⟩
 case round =>
  obtain ⟨q,hq,rfl,HX⟩:=hrel
  have HI:=Hd HX.out.1
  have BX:=Hd HX.out.2
  clear HX
  cases gk with
  | zero =>
    obtain rfl:q=l.length:=by omega
    have HE:=Hd (all_take_end HI.out)
    go_wp2_with fail
    go_ret
    exact ⟨by rw [HE.out];rfl,BX.out⟩
  | succ g =>
    have hqn:q < l.length:=by omega
    have hqn':(q:Int) < (l.length:Int):=by omega
    obtain ⟨x,hx⟩:∃ x,l[q]? = some x:=⟨_,List.getElem?_eq_getElem hqn⟩
    obtain ⟨b,o,cs,rfl,hb,hc,hT⟩:=rowOf_at 2 len_dir HR.out hx
    have HBL:=Hd (Nat.lt_of_lt_of_le hb HB.out)
    have hT':=TS.low (BX.out.mono HB.out) hT
    obtain ⟨Ad,kd,rfl,_⟩:=dir_cells hT
    have g0:=(BX.out.cell (p:=⟨b,o+q*2,none⟩) HBL.out).trans (hc 0 _ rfl)
    have g1:=(BX.out.cell (p:=⟨b,o+q*2+1,none⟩) HBL.out).trans (hc 1 _ rfl)
    have HN:=Hd (fun h=>all_take_next (p:=p) HI.out hx h)
    have HM:=Hd (fun h=>all_take_no (p:=p) hx h)
    have HT':=Hd hT'
    have CF:=Hd (HF.out x (List.mem_of_getElem? hx))
    generalize p x=px at CF HN HM
    clear hx hb hT hT' hc
    go_upto_region 4 with fail
    clear g0 g1
    have bn:=dbelow_new wr (.cells #[.string x.1,.slice Ad x.2.len kd] 83)
    have B2:=Hd (BX.out.trans (bn.mono BX.out.size))
    have CF:=Hd (CF.out _ _ B2.out (TS.low (bn.mono (Nat.le_trans HB.out BX.out.size)) HT'.out))
    have Y2:=Hd (heap_alloc_new wr (.cells #[.string x.1,.slice Ad x.2.len kd] 83))
    generalize wr.alloc (.cells #[.string x.1,.slice Ad x.2.len kd] 83)=w2 at B2 Y2 CF ⊢
    generalize wr.heap.size=gb at Y2 ⊢
    obtain ⟨g0,g1⟩:=two_boxS Y2.out
    clear bn
    go_wp2_with fail
    refine CF.out.mono ?_
    rintro e w3 ⟨rfl,hb3⟩
    have B3:=Hd (B2.out.trans (hb3.mono B2.out.size))
    clear hb3 g0 g1 B2 Y2
    cases px with
    | false =>
      have HE:=Hd (HM.out rfl)
      go_wp2_with fail
      go_ret
      exact ⟨by rw [HE.out];rfl,B3.out⟩
    | true =>
      have HE:=Hd (HN.out rfl)
      go_wp2_with fail
      go_roundg g
      case measure=>omega
      case rel=>exact ⟨q+1,by omega,by go_num,Blk.Aside.intro ⟨HE.out,B3.out⟩⟩
theorem allMem_any (fn:Nat) (pl:Value) (l:List (ByteArray × VT)) (A:Option Addr) (c:Nat) (p:(ByteArray × VT)→Bool) (w:World) (B:Nat) (hB:B≤w.heap.size) (hl:l.length≤9223372036854775807) (hR:RowT w (fun b=>b < B) (rowOf encPr l) A)
  (he:∀ (args:Array Value) (w:World),(callFunc fn args).run Tryz.prog w=.ok (.enter fn args) w) (hf:∀ x,x ∈ l→∀ (cs:List Value) (W:World),Below w.heap.size w W→TS W (fun b=>b < B) (encPr x) cs→Calls Tryz.prog fn #[pl,.agg cs.toArray] W fun e W'=>e=.returned (.bool (p x))∧Below W.heap.size W W') :
  Calls Tryz.prog 219 #[.slice A l.length c,.func (.func fn) #[pl] #[]] w fun e w'=>e=.returned (.bool (l.all p))∧Below w.heap.size w w':=by
 have HR:=Hd hR
 have HF:=Hd hf
 have HB:=Hd hB
 clear hR hf hB
 go_enter Tryz.func219,Tryz.ntmps219
 go_wp2_with fail
 go_loopg [9] l.length (fun g i wx=>∃ q:Nat,q+g=l.length∧i=.int .i64 q∧Aside ((l.take q).all p=true∧Below w.heap.size w wx))
 case atStart=>exact ⟨0,by omega,rfl,Blk.Aside.intro ⟨rfl,Below.refl _ _⟩⟩
 case round =>
  obtain ⟨q,hq,rfl,HX⟩:=hrel
  have HI:=Hd HX.out.1
  have BX:=Hd HX.out.2
  clear HX
  cases gk with
  | zero =>
    obtain rfl:q=l.length:=by omega
    have HE:=Hd (all_take_end HI.out)
    go_wp2_with fail
    go_ret
    exact ⟨by rw [HE.out];rfl,BX.out⟩
  | succ g =>
    have hqn:q < l.length:=by omega
    have hqn':(q:Int) < (l.length:Int):=by omega
    obtain ⟨x,hx⟩:∃ x,l[q]? = some x:=⟨_,List.getElem?_eq_getElem hqn⟩
    obtain ⟨b,o,cs,rfl,hb,hc,hT⟩:=rowOf_at 6 pr_len HR.out hx
    have HBL:=Hd (Nat.lt_of_lt_of_le hb HB.out)
    have hT':=TS.low (BX.out.mono HB.out) hT
    obtain ⟨A3,k3,A4,k4,rfl,_⟩:=pr_cells hT
    have g0:=(BX.out.cell (p:=⟨b,o+q*6,none⟩) HBL.out).trans (hc 0 _ rfl)
    have g1:=(BX.out.cell (p:=⟨b,o+q*6+1,none⟩) HBL.out).trans (hc 1 _ rfl)
    have g2:=(BX.out.cell (p:=⟨b,o+q*6+2,none⟩) HBL.out).trans (hc 2 _ rfl)
    have g3:=(BX.out.cell (p:=⟨b,o+q*6+3,none⟩) HBL.out).trans (hc 3 _ rfl)
    have g4:=(BX.out.cell (p:=⟨b,o+q*6+4,none⟩) HBL.out).trans (hc 4 _ rfl)
    have g5:=(BX.out.cell (p:=⟨b,o+q*6+5,none⟩) HBL.out).trans (hc 5 _ rfl)
    have HN:=Hd (fun h=>all_take_next (p:=p) HI.out hx h)
    have HM:=Hd (fun h=>all_take_no (p:=p) hx h)
    have HT':=Hd hT'
    have CF:=Hd (HF.out x (List.mem_of_getElem? hx))
    generalize p x=px at CF HN HM
    clear hx hb hT hT' hc
    go_upto_region 4 with fail
    clear g0 g1 g2 g3 g4 g5
    have bn:=dbelow_new wr (.cells #[.string x.1,.int .i64 x.2.kd,.int .i64 x.2.nn,.string x.2.ss,.slice A3 x.2.ls.len k3,.slice A4 x.2.ms.len k4] 97)
    have B2:=Hd (BX.out.trans (bn.mono BX.out.size))
    have CF:=Hd (CF.out _ _ B2.out (TS.low (bn.mono (Nat.le_trans HB.out BX.out.size)) HT'.out))
    have Y2:=Hd (heap_alloc_new wr (.cells #[.string x.1,.int .i64 x.2.kd,.int .i64 x.2.nn,.string x.2.ss,.slice A3 x.2.ls.len k3,.slice A4 x.2.ms.len k4] 97))
    generalize wr.alloc (.cells #[.string x.1,.int .i64 x.2.kd,.int .i64 x.2.nn,.string x.2.ss,.slice A3 x.2.ls.len k3,.slice A4 x.2.ms.len k4] 97)=w2 at B2 Y2 CF ⊢
    generalize wr.heap.size=gb at Y2 ⊢
    obtain ⟨⟨g0,g1,g2,g3,g4,g5⟩,_⟩:=six_cells Y2.out
    clear bn
    go_wp2_with fail
    refine CF.out.mono ?_
    rintro e w3 ⟨rfl,hb3⟩
    have B3:=Hd (B2.out.trans (hb3.mono B2.out.size))
    clear hb3 g0 g1 g2 g3 g4 g5 B2 Y2
    cases px with
    | false =>
      have HE:=Hd (HM.out rfl)
      go_wp2_with fail
      go_ret
      exact ⟨by rw [HE.out];rfl,B3.out⟩
    | true =>
      have HE:=Hd (HN.out rfl)
      go_wp2_with fail
      go_roundg g
      case measure=>omega
      case rel=>exact ⟨q+1,by omega,by go_num,Blk.Aside.intro ⟨HE.out,B3.out⟩⟩
theorem allStr_any (fn:Nat) (l:List ByteArray) (A:Option Addr) (c:Nat) (p:ByteArray→Bool) (w:World) (B:Nat) (hB:B≤w.heap.size) (hl:l.length≤9223372036854775807) (hR:RowT w (fun b=>b < B) (rowOf encStr l) A)
  (he:∀ (args:Array Value) (w:World),(callFunc fn args).run Tryz.prog w=.ok (.enter fn args) w) (hf:∀ x,x ∈ l→x.size≤9223372036854775807→∀ W:World,Below w.heap.size w W→Calls Tryz.prog fn #[.string x] W fun e W'=>e=.returned (.bool (p x))∧Below W.heap.size W W') :
  Calls Tryz.prog 169 #[.slice A l.length c,.func (.func fn) #[] #[]] w fun e w'=>e=.returned (.bool (l.all p))∧Below w.heap.size w w':=by
 have HR:=Hd hR
 have HF:=Hd hf
 have HB:=Hd hB
 clear hR hf hB
 go_enter Tryz.func169,Tryz.ntmps169
 go_wp2_with fail
 go_loopg [9] l.length (fun g i wx=>∃ q:Nat,q+g=l.length∧i=.int .i64 q∧Aside ((l.take q).all p=true∧Below w.heap.size w wx))
 case atStart=>exact ⟨0,by omega,rfl,Blk.Aside.intro ⟨rfl,Below.refl _ _⟩⟩
 case round =>
  obtain ⟨q,hq,rfl,HX⟩:=hrel
  have HI:=Hd HX.out.1
  have BX:=Hd HX.out.2
  clear HX
  cases gk with
  | zero =>
    obtain rfl:q=l.length:=by omega
    have HE:=Hd (all_take_end HI.out)
    go_wp2_with fail
    go_ret
    exact ⟨by rw [HE.out];rfl,BX.out⟩
  | succ g =>
    have hqn:q < l.length:=by omega
    have hqn':(q:Int) < (l.length:Int):=by omega
    obtain ⟨x,hx⟩:∃ x,l[q]? = some x:=⟨_,List.getElem?_eq_getElem hqn⟩
    obtain ⟨b,o,cs,rfl,hb,hc,hT⟩:=rowOf_at 1 len_str HR.out hx
    have HBL:=Hd (Nat.lt_of_lt_of_le hb HB.out)
    have hT':=TS.low (BX.out.mono HB.out) hT
    obtain ⟨rfl,_⟩:=str_one hT
    have h0:w.cell? ⟨b,o+q,none⟩=some (.string x):=by have h:=hc 0 _ rfl;rw [Nat.mul_one] at h;exact h
    have g0:=(BX.out.cell (p:=⟨b,o+q,none⟩) HBL.out).trans h0
    clear h0
    have HN:=Hd (fun h=>all_take_next (p:=p) HI.out hx h)
    have HM:=Hd (fun h=>all_take_no (p:=p) hx h)
    have hz:=(str_one hT).2
    have CF:=Hd (HF.out x (List.mem_of_getElem? hx) hz _ BX.out)
    generalize p x=px at CF HN HM
    clear hx hb hT hT' hc hz
    go_wp2_with fail
    refine CF.out.mono ?_
    rintro e w3 ⟨rfl,hb3⟩
    have B3:=Hd (BX.out.trans (hb3.mono BX.out.size))
    clear hb3 g0
    cases px with
    | false =>
      have HE:=Hd (HM.out rfl)
      go_wp2_with fail
      go_ret
      exact ⟨by rw [HE.out];rfl,B3.out⟩
    | true =>
      have HE:=Hd (HN.out rfl)
      go_wp2_with fail
      go_roundg g
      case measure=>omega
      case rel=>exact ⟨q+1,by omega,by go_num,Blk.Aside.intro ⟨HE.out,B3.out⟩⟩
end Go.Proofs.YtaekdfcpbepepaaGreatDoor
