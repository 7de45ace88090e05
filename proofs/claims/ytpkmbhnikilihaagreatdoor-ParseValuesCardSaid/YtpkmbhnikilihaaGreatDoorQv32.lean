/- The laws' own example. -/
import Derived.Test.YtpkmbhnikilihaaGreatDoorQv31
import Derived.Test.YtpkmbhnikilihaaGreatDoorCards
import Derived.Test.YtpkmbhnikilihaaGreatDoorTie
import Derived.OpenShut
import Derived.Deep.DeepHandedRow
import Derived.Lib.LaidU8
import Derived.Lay
import Derived.MakeChecks
import Derived.SizedLaws
import Derived.Deep.SlicePairs
import Derived.Lib.TrimUEq
set_option maxRecDepth 100000
set_option maxHeartbeats 4000000
namespace Go.Proofs.YtpkmbhnikilihaaGreatDoor
open Go.RowKit
def ex1:ByteArray:=⟨#[123,97,32,46,46,46,111,110,32,66,123,99,125,125]⟩
def ex2:ByteArray:=⟨#[113,117,101,114,121,40,36,120,58,73,110,116,61,36,121,41,123,97,125]⟩
def ex1T:List (Int × List UInt8):=[(1,[123]),(2,[97]),(1,[46,46,46]),(2,[111,110]),(2,[66]),(1,[123]),(2,[99]),(1,[125]),(1,[125])]
def ex2T:List (Int × List UInt8):=[(2,[113,117,101,114,121]),(1,[40]),(1,[36]),(2,[120]),(1,[58]),(2,[73,110,116]),(1,[61]),(1,[36]),(2,[121]),(1,[41]),(1,[123]),(2,[97]),(1,[125])]
theorem ex1_read:readS ex1.data.toList=(ex1T,0):=by decide +kernel
theorem ex2_read:readS ex2.data.toList=(ex2T,0):=by decide +kernel
def exS2:SelT:=.mk 2 eB eB .nil [] (bz [66]) (.cons (.mk 0 eB (bz [99]) .nil [] eB .nil) .nil)
def exDoc:DocT:=⟨[⟨0,eB,[],[],.cons (.mk 0 eB (bz [97]) .nil [] eB .nil) (.cons exS2 .nil)⟩],[]⟩
theorem ex1_doc:docR (tokB ex1T)=.ok exDoc:=by kernel_rfl
theorem ex2_doc:docR (tokB ex2T)=.error 2:=by kernel_rfl
theorem whole_of {α:Type} {R:List Tok→Except Int (α × List Tok)} {l:List UInt8} {ts:List (Int × List UInt8)} (h:readS l=(ts,0)):wholeA R l=(match R (tokB ts) with | .error x=>.error x | .ok (a,r)=>if r=[] then .ok a else .error 2):=by
 unfold wholeA
 rw [h,if_neg (by simp)]
 all_goals (cases R (tokB ts)<;>rfl)
theorem doc_of {l:List UInt8} {ts:List (Int × List UInt8)} (h:readS l=(ts,0)):wholeA docRr l=docR (tokB ts):=by
 rw [whole_of h]
 unfold docRr
 cases docR (tokB ts) with
 | error x=>rfl
 | ok D=>rfl
theorem ex1_whole:wholeA docRr ex1.data.toList=.ok exDoc:=by rw [doc_of ex1_read,ex1_doc]
theorem ex2_whole:wholeA docRr ex2.data.toList=.error 2:=by rw [doc_of ex2_read,ex2_doc]
theorem ex_cells {w w':World} {A0:Option Addr} {n0 k0:Nat} {A1:Option Addr} {n1 k1:Nat} (h:TS w' (Fresh w w') (encDoc exDoc) [.slice A0 n0 k0,.slice A1 n1 k1]) :
  n0=1∧∃ b o b2 o2 k2,A0=some ⟨b,o,none⟩∧b < w'.heap.size∧b2 < w'.heap.size∧w'.cell? ⟨b,o+4,none⟩=some (.slice (some ⟨b2,o2,none⟩) 2 k2)∧w'.cell? ⟨b2,o2+12,none⟩=some (.string ⟨#[66]⟩):=by
 unfold encDoc exDoc at h
 simp only [rowOf,TS,TP,encOp] at h
 obtain ⟨c0,_,e0,⟨A,k,rfl,_,hl⟩,_⟩:=h
 injection e0 with e0 _
 injection e0 with e1 e2 e3
 subst e1 e2
 rw [RowT] at hl
 obtain ⟨b,o,cs,rfl,hb,hc,hs,_⟩:=hl
 refine ⟨rfl,b,o,?_⟩
 simp only [TS,TP,encSL] at hs
 obtain ⟨x0,_,rfl,_,x1,_,rfl,_,x2,_,rfl,_,x3,_,rfl,_,x4,_,rfl,⟨A4,k4,rfl,_,h4⟩,_⟩:=hs
 rw [RowT] at h4
 obtain ⟨b2,o2,cs2,rfl,hb2,hc2,hs2,h5⟩:=h4
 rw [RowT] at h5
 obtain ⟨b3,o3,cs3,e3,hb3,hc3,hs3,_⟩:=h5
 have e3:=Option.some.inj e3
 injection e3 with q1 q2 _
 subst q1 q2
 unfold exS2 at hs3
 rw [encS] at hs3
 simp only [TS,TP] at hs3
 obtain ⟨y0,_,rfl,_,y1,_,rfl,_,y2,_,rfl,_,y3,_,rfl,_,y4,_,rfl,_,y5,_,rfl,⟨rfl,_⟩,_⟩:=hs3
 have hlen:(encS (.mk 0 eB (bz [97]) .nil [] eB .nil)).len=7:=by rw [encS];rfl
 refine ⟨b2,o2,k4,rfl,hb.2,hb2.2,hc 4 _ rfl,?_⟩
 have:=hc3 5 _ rfl
 rw [hlen] at this
 exact this
theorem awake_any (w:World) (h3:Laid3 w) (h5:Laid5 w):Calls Tryz.prog 13 #[] w fun e w'=>e=.returned (.bool true)∧Below w.heap.size w w':=by
 have H1:=Hd (pread_any ex1 w (by decide) h3 h5)
 rw [ex1_whole] at H1
 have H2:=fun wx (hb:Below w.heap.size w wx)=>Hd (pread_any ex2 wx (by decide) (h3.below hb) (h5.below hb))
 rw [ex2_whole] at H2
 clear h3 h5
 go_enter Tryz.func13,Tryz.ntmps13
 go_wp2_with fail
 refine H1.out.mono ?_
 rintro e w1 ⟨A0,n0,k0,A1,n1,k1,x,rfl,⟨rfl,hts⟩,hb1⟩
 obtain ⟨rfl,b,o,b2,o2,k2,rfl,hlb,hlb2,hc1,hc2⟩:=ex_cells hts
 have B1:=Hd (hb1.alloc hb1.size (.cells #[.slice (some ⟨b,o,none⟩) 1 k0,.slice A1 n1 k1] 26))
 have C1:=Hd (show (w1.alloc (.cells #[.slice (some ⟨b,o,none⟩) 1 k0,.slice A1 n1 k1] 26)).heap[w1.heap.size]? = _ from heap_alloc_last _ _)
 have HC:=Hd (And.intro hc1 hc2)
 clear hts hb1 hc1 hc2 H1
 go_wp2_with fail
 refine (H2 _ B1.out).out.mono ?_
 rintro e w2 ⟨A2,n2,k2',A3,n3,k3,x2,rfl,⟨rfl,_,hz⟩,hb2⟩
 simp only [List.cons.injEq,Value.slice.injEq,and_true] at hz
 obtain ⟨⟨rfl,rfl,rfl⟩,rfl,rfl,rfl⟩:=hz
 have hs2:=hb2.size
 have hsz:(w1.alloc (.cells #[.slice (some ⟨b,o,none⟩) 1 k0,.slice A1 n1 k1] 26)).heap.size=w1.heap.size+1:=by simp
 have hB:=fun obj=>(hb2.alloc hb2.size obj)
 have B2:=Hd (B1.out.trans (hb2.mono B1.out.size))
 have d0:=fun obj=>((hB obj).block w1.heap.size (by omega)).trans C1.out
 have d1:=fun obj=>((hB obj).cell (p:=⟨b,o+4,none⟩) (by show b < _;omega)).trans ((World.cell?_of_block (a:=⟨b,o+4,none⟩) (Below.heap_alloc _ _ _ hlb)).trans HC.out.1)
 have d2:=fun obj=>((hB obj).cell (p:=⟨b2,o2+12,none⟩) (by show b2 < _;omega)).trans ((World.cell?_of_block (a:=⟨b2,o2+12,none⟩) (Below.heap_alloc _ _ _ hlb2)).trans HC.out.2)
 obtain ⟨c0,c1,_⟩:=ptc (d0 (.cells #[.slice none 0 0,.slice none 0 0] 26))
 have c4:=d1 (.cells #[.slice none 0 0,.slice none 0 0] 26)
 have c5:=d2 (.cells #[.slice none 0 0,.slice none 0 0] 26)
 have B3:=Hd (B2.out.alloc B2.out.size (.cells #[.slice none 0 0,.slice none 0 0] 26))
 clear d0 d1 d2 hb2 hB
 go_wp2_with fail
 go_ret
 exact ⟨rfl,B3.out⟩
open Go.ChangeShapes Go.WideShapes Go.ChangeAt Go.RowKit
theorem own:ownKnob Tryz.prog.godebug=none:=by kernel_rfl
theorem laidOut:laidOutB Tryz.prog=true:=by kernel_rfl
theorem gTab : Tryz.prog.globalNamed "seine/letters.shapes" = some 1 := by kernel_rfl
theorem gTabType:(Tryz.prog.globals[1]?).map (·.type)=some 267:=by kernel_rfl
theorem cellsTab:Tryz.prog.cellsOf 267=12:=by kernel_rfl
theorem cellsShape:Tryz.prog.cellsOf 266=3:=by kernel_rfl
theorem cellsInt:Tryz.prog.cellsOf 3=1:=by kernel_rfl
theorem one_shape {w:World} {cs:List Value} {m:Nat} {a b c:Int} {p:List MemPlace} (h:DataW.trod (fun _=>()) Tryz.prog w 0 (fun _=>true) false m 266 cs=some (DataW.agg [.lit (.int .i64 a),.lit (.int .i64 b),.lit (.int .i64 c)],p)) :
   cs=[.int .i64 a,.int .i64 b,.int .i64 c]:=by
 obtain ⟨y0,y1,y2,n,hx,hl,h0,h1,h2⟩:=Go.Deep.trod_struct3 Tryz.underlying266 h
 rw [cellsShape] at hl
 simp only [cellsInt] at h0 h1 h2
 obtain ⟨n0,c0,rfl,_⟩:=DataW.trod_int Tryz.underlying3 h0
 obtain ⟨n1,c1,rfl,_⟩:=DataW.trod_int Tryz.underlying3 h1
 obtain ⟨n2,c2,rfl,_⟩:=DataW.trod_int Tryz.underlying3 h2
 simp only [Prod.mk.injEq,DataW.agg.injEq,List.cons.injEq,DataW.lit.injEq,Lit.int.injEq,true_and,and_true] at hx
 obtain ⟨⟨rfl,rfl,rfl⟩,_⟩:=hx
 match cs,hl with
 | [x,y,z],_ =>
   simp at c0 c1 c2
   subst c0 c1 c2
   rfl
theorem table {W : World} (h : Lib.VarReads Tryz.prog W "seine/letters.shapes" Rows.laid_seine_letters_shapes) : TabAt W := by
 obtain ⟨g',t',cs,fuel,p,hg',ht',hvar,hd⟩:=h
 obtain rfl:=Option.some.inj (gTab.symm.trans hg')
 obtain rfl:=Option.some.inj (gTabType.symm.trans ht')
 obtain ⟨xs,m,_,hx,hl,hxl,hi⟩:=DataW.trod_array Tryz.underlying267 hd
 rw [cellsTab] at hl
 simp only [cellsShape] at hi
 match xs,hxl with
 | [x0,x1,x2,x3],_ =>
   simp only [Rows.laid_seine_letters_shapes,List.map_cons,List.map_nil,Prod.mk.injEq,DataW.agg.injEq,List.cons.injEq,and_true] at hx
   obtain ⟨⟨e0,e1,e2,e3⟩,_⟩:=hx
   have a0:=one_shape (p:=x0.2) ((hi 0 (by omega)).trans (by rw [e0];rfl))
   have a1:=one_shape (p:=x1.2) ((hi 1 (by omega)).trans (by rw [e1];rfl))
   have a2:=one_shape (p:=x2.2) ((hi 2 (by omega)).trans (by rw [e2];rfl))
   have a3:=one_shape (p:=x3.2) ((hi 3 (by omega)).trans (by rw [e3];rfl))
   have hcs:cs.toList=[.int .i64 0,.int .i64 128,.int .i64 0,.int .i64 192,.int .i64 224,.int .i64 128,.int .i64 224,.int .i64 240,.int .i64 2048,.int .i64 240,.int .i64 248,.int .i64 65536]:=by
    have hl':cs.toList.length=12:=hl
    generalize cs.toList=l at *
    match l,hl' with
    | [b0,b1,b2,b3,b4,b5,b6,b7,b8,b9,b10,b11],_ =>
      simp at a0 a1 a2 a3
      obtain ⟨rfl,rfl,rfl⟩:=a0
      obtain ⟨rfl,rfl,rfl⟩:=a1
      obtain ⟨rfl,rfl,rfl⟩:=a2
      obtain ⟨rfl,rfl,rfl⟩:=a3
      rfl
   intro j z hz
   rw [World.var?_cell gTab hvar j]
   have:cs[j]? = cs.toList[j]?:=by simp
   rw [this,hcs]
   have hj:j < 12:=(List.getElem?_eq_some_iff.1 hz).1
   match j,hj,hz with
   | 0,_,hz|1,_,hz|2,_,hz|3,_,hz|4,_,hz|5,_,hz|6,_,hz|7,_,hz|8,_,hz|9,_,hz|10,_,hz|11,_,hz=>cases hz;rfl
theorem gErr : Tryz.prog.globalNamed "strconv.ErrSyntax" = some 2 := by kernel_rfl
theorem gErrType:(Tryz.prog.globals[2]?).map (·.type)=some 105:=by kernel_rfl
theorem error_laid {W : World} (h : Lib.VarReads Tryz.prog W "strconv.ErrSyntax" Rows.laid_strconv_ErrSyntax) : ∃ te pe, W.cell? ⟨2, 0, none⟩ = some (.iface te pe) := by
 obtain ⟨g',t',cs,fuel,p,hg',ht',hvar,hd⟩:=h
 obtain rfl:=Option.some.inj (gErr.symm.trans hg')
 obtain rfl:=Option.some.inj (gErrType.symm.trans ht')
 obtain ⟨_,u,v,e,_,_⟩:=iface_of_trod Tryz.underlying105 hd
 refine ⟨u,v,?_⟩
 rw [World.var?_cell gErr hvar 0]
 have:cs[0]? = cs.toList[0]?:=by simp
 rw [this,e]
 rfl
abbrev allLaid : List (String × DataW Unit) := [("math/bits.deBruijn32tab", Rows.laid_math_bits_deBruijn32tab), ("math/bits.deBruijn64tab", Rows.laid_math_bits_deBruijn64tab), ("internal/strconv.uint64pow10", Rows.laid_internal_strconv_uint64pow10), ("strconv.ErrRange", Rows.laid_strconv_ErrRange), ("strconv.ErrSyntax", Rows.laid_strconv_ErrSyntax), ("seine/letters.shapes", Rows.laid_seine_letters_shapes)]
theorem laid3_of {W:World} (h:laidMetH Tryz.prog allLaid W):Laid3 W:=by
 rw [MakeChecks.laidMetH_plain _ _ _ (by kernel_rfl)] at h
 exact ⟨table (Lib.laidMet.reads h (by simp [allLaid])),error_laid (Lib.laidMet.reads h (by simp [allLaid]))⟩
theorem args_kept {H:Type} {enc:TypeId × Value→H} {W W':World} (hb:Below W.heap.size W W'):∀ (ts:List TypeId) (vs:List Value) (ds:List (DataW H)) (ps:List MemPlace),
   (∀ t ∈ ts,Tryz.prog.readableRec t=true∧t < Tryz.prog.types.size)→(∀ x ∈ ps,x.block < W.heap.size) →
   DataW.TrodAll enc Tryz.prog W 0 (fun _=>true) true ts vs ds ps→DataW.TrodAll enc Tryz.prog W' 0 (fun b=>decide (b < W.heap.size)) true ts vs ds ps
 | [],[],[],_,_,_,h=>h
 | t :: ts,v :: vs,d :: ds,ps,hr,hlt,⟨p,q,h1,h2,e⟩=>by
   subst e
   refine ⟨p,q,?_,?_,rfl⟩
   · exact Below.trod laidOut (hr t (by simp)).1 (hr t (by simp)).2 h1 hb (fun x hx=>hlt x (by simp [hx]))
   · exact args_kept hb ts vs ds q (fun t' ht'=>hr t' (by simp [ht'])) (fun x hx=>hlt x (by simp [hx])) h2
 | [],[],_ :: _,_,_,_,h=>h.elim
 | [],_ :: _,_,_,_,_,h=>h.elim
 | _ :: _,[],_,_,_,_,h=>h.elim
 | _ :: _,_ :: _,[],_,_,_,h=>h.elim
theorem law_post {H:Type} {enc:TypeId × Value→H} {f:Func} {s:ChangeSpec} {W W':World} {args:Array Value} {ds gs:List (DataW H)} {before:List MemPlace}
   (hW:DataW.Whole enc Tryz.prog f.params.toList s.vars false W args.toList ds gs before) (hv:s.vars=[]) (hf:f.resultTypes=#[4])
   (hr:∀ t ∈ f.params.toList,Tryz.prog.readableRec t=true∧t < Tryz.prog.types.size)
   (hs1:(s.fn H (ds++gs)).results=[.lit (.bool true)]) (hs2:(s.fn H (ds++gs)).args=ds) (hs3:(s.fn H (ds++gs)).vars=[]) (hb:Below W.heap.size W W') :
   s.post enc Tryz.prog f false true false false W args (.bool true) W':=by
 have hlt:∀ x ∈ before,x.block < W.heap.size:=fun x hx=>hW.lt x hx
 have hW0:=hW
 obtain ⟨p,q,hA,hV,e,_,_⟩:=hW0
 rw [hv] at hV
 obtain ⟨rfl,rfl⟩:=trodVars_none hV
 rw [List.append_nil] at e
 subst e
 refine ⟨ds,[],before,[],before,[],hW,?_,?_,?_,World.keptBut_mono (fun x hx=>⟨hx,.inr (.inl hx)⟩) (hb.frame (· ∈ before)),fun h=>by cases h⟩
 · rw [hs1,hf];exact trodAll_mk1 (shut_bool Tryz.underlying4 _)
 · rw [hs2];exact args_kept hb _ _ _ _ hr hlt hA
 · rw [hs3,hv];rfl
noncomputable def laidWorld (os:Os):World:=World.laidAll Tryz.prog os allLaid
theorem laidWorld_met (os:Os) (args:Array Value):laidMet Tryz.prog allLaid ((laidWorld os).forCall (fun _ _=>0) ⟨#[],args,[]⟩).memory:=
 laidMet_laidAll args (by kernel_rfl) (by kernel_rfl)
open Go.ChangeShapes Go.WideShapes Go.ChangeAt Go.RowKit
open Go.ChangeShapes Go.WideShapes Go.ChangeAt Go.RowKit
theorem gRange : Tryz.prog.globalNamed "strconv.ErrRange" = some 3 := by kernel_rfl
theorem gRangeType:(Tryz.prog.globals[3]?).map (·.type)=some 105:=by kernel_rfl
theorem range_laid {W : World} (h : Lib.VarReads Tryz.prog W "strconv.ErrRange" Rows.laid_strconv_ErrRange) : ∃ te pe, W.cell? ⟨3, 0, none⟩ = some (.iface te pe) := by
 obtain ⟨g',t',cs,fuel,p,hg',ht',hvar,hd⟩:=h
 obtain rfl:=Option.some.inj (gRange.symm.trans hg')
 obtain rfl:=Option.some.inj (gRangeType.symm.trans ht')
 obtain ⟨_,u,v,e,_,_⟩:=iface_of_trod Tryz.underlying105 hd
 refine ⟨u,v,?_⟩
 rw [World.var?_cell gRange hvar 0]
 have:cs[0]? = cs.toList[0]?:=by simp
 rw [this,e]
 rfl
theorem gPowType:(Tryz.prog.globals[0]?).map (·.type)=some 262:=by kernel_rfl
theorem pow_laid {W : World} (h : Lib.VarReads Tryz.prog W "internal/strconv.uint64pow10" Rows.laid_internal_strconv_uint64pow10) : Lib.TabIs Tryz.prog W "internal/strconv.uint64pow10" .u64 Lib.pow10Tab := by
 obtain ⟨g',t',cs,fuel,p,hg',ht',hvar,hd⟩:=h
 obtain rfl:=Option.some.inj (gPow.symm.trans hg')
 obtain rfl:=Option.some.inj (gPowType.symm.trans ht')
 have hd':DataW.trod (fun _=>()) Tryz.prog W 0 (fun _=>true) false fuel 262 cs.toList=some (Lib.tabData .u64 Lib.pow10Tab,p):=hd
 have:=Lib.cells_of_tab Tryz.underlying262 Tryz.underlying238 (by kernel_rfl) (by kernel_rfl) hd'
 unfold Lib.TabIs
 rw [hvar,← this]
theorem laid5_of {W:World} (h:laidMetH Tryz.prog allLaid W):Laid5 W:=by
 rw [MakeChecks.laidMetH_plain _ _ _ (by kernel_rfl)] at h
 exact ⟨table (Lib.laidMet.reads h (by simp [allLaid])),range_laid (Lib.laidMet.reads h (by simp [allLaid])),pow_laid (Lib.laidMet.reads h (by simp [allLaid]))⟩
open Go.ChangeShapes Go.WideShapes Go.ChangeAt Go.RowKit
def TsAt (w:World) (B:Nat) (A:Option Addr) (n:Nat) (ts:List (Int × ByteArray)):Prop:=
 ts.length=n∧∀ (j:Nat) t,ts[j]? = some t→∃ b o,A=some ⟨b,o,none⟩∧b < B∧w.cell? ⟨b,o+j*2,none⟩=some (.int .i64 t.1)∧w.cell? ⟨b,o+j*2+1,none⟩=some (.string t.2)
theorem TsAt.below {w w':World} {B:Nat} {A:Option Addr} {n:Nat} {ts:List (Int × ByteArray)} (h:TsAt w B A n ts) (hb:Below B w w'):TsAt w' B A n ts:=
 ⟨h.1,fun j t ht=>by
  obtain ⟨b,o,e,hlt,h0,h1⟩:=h.2 j t ht
  exact ⟨b,o,e,hlt,(hb.cell (p:=⟨b,o+j*2,none⟩) hlt).trans h0,(hb.cell (p:=⟨b,o+j*2+1,none⟩) hlt).trans h1⟩⟩
theorem TsAt.more {w:World} {B B':Nat} {A:Option Addr} {n:Nat} {ts:List (Int × ByteArray)} (h:TsAt w B A n ts) (hB:B≤B'):TsAt w B' A n ts:=
 ⟨h.1,fun j t ht=>by
  obtain ⟨b,o,e,hlt,r⟩:=h.2 j t ht
  exact ⟨b,o,e,by omega,r⟩⟩
theorem TsAt.on {w w':World} {A:Option Addr} {n:Nat} {ts:List (Int × ByteArray)} (h:TsAt w w.heap.size A n ts) (hb:Below w.heap.size w w'):TsAt w' w'.heap.size A n ts:=(h.below hb).more hb.size
def packT (ts:List (Int × List UInt8)):List (Int × ByteArray):=ts.map fun t=>(t.1,⟨t.2.toArray⟩)
theorem tokVals_at:∀ (ts:List (Int × List UInt8)) (j:Nat) t,ts[j]? = some t→(tokVals ts)[2*j]? = some (.int .i64 t.1)∧(tokVals ts)[2*j+1]? = some (.string ⟨t.2.toArray⟩):=by
 intro ts
 induction ts with
 | nil=>intro j t h;simp at h
 | cons u ts ih =>
   intro j t h
   cases j with
   | zero =>
     simp at h
     subst h
     exact ⟨rfl,rfl⟩
   | succ j =>
     have:=ih j t (by simpa using h)
     exact this
theorem ToksAt.ts {w:World} {A:Option Addr} {cap:Nat} {ts:List (Int × List UInt8)} (h:ToksAt w A cap ts):TsAt w w.heap.size A ts.length (packT ts):=by
 refine ⟨by simp [packT],fun j t ht=>?_⟩
 unfold packT at ht
 rw [List.getElem?_map] at ht
 obtain ⟨u,hu,rfl⟩:=Option.map_eq_some_iff.1 ht
 obtain ⟨v0,v1⟩:=tokVals_at ts j u hu
 obtain ⟨g,rfl,hg,h0⟩:=h.1 _ _ v0
 obtain ⟨g',e,_,h1⟩:=h.1 _ _ v1
 injection e with e
 injection e with e1
 subst e1
 exact ⟨g,0,rfl,hg,by rw [Nat.zero_add,Nat.mul_comm];exact h0,by rw [Nat.zero_add,Nat.mul_comm];exact h1⟩
def Kept (w wx:World):Prop:=TabAt wx∧Below w.heap.size w wx
theorem Kept.next {w wx wy:World} (h:Kept w wx) (hb:Below wx.heap.size wx wy):Kept w wy:=⟨h.1.below hb h.1.lt,h.2.trans (hb.mono h.2.size)⟩
theorem Kept.alloc {w wx:World} (h:Kept w wx) (o:Obj):Kept w (wx.alloc o):=h.next ((Below.refl _ _).alloc (Nat.le_refl _) o)
def OutAt (b:Nat) (us:List Int) (w:World):Prop:=
 ∃ v,w.heap[b]? = some (.cells #[v] 202 (0,0))∧w.ownsRow (b+1) 3 1 v us.length (us.map (Value.int .i64))
theorem OutAt.lt {b:Nat} {us:List Int} {w:World} (h:OutAt b us w):b < w.heap.size:=by
 obtain ⟨v,hb,_⟩:=h
 rcases Nat.lt_or_ge b w.heap.size with h'|h'
 · exact h'
 · rw [Array.getElem?_eq_none h'] at hb;cases hb
theorem grown_of {w w':World} (h:Below w.heap.size w w'):w.grownBy w' none:=⟨h.os,h.tape,h.output,h.size,fun i hi _=>h.block i hi⟩
theorem own_none (v:Value):v.ownBlock=none∨v.ownBlock ≠ none:=Classical.em _
theorem OutAt.below {b:Nat} {us:List Int} {w w':World} (h:OutAt b us w) (hb:Below w.heap.size w w'):OutAt b us w':=by
 have hl:=h.lt
 obtain ⟨v,h1,h2⟩:=h
 exact ⟨v,(hb.block b hl).trans h1,h2.kept (grown_of hb) (own_none _)⟩
theorem own_form {w:World} {base:Nat} {e:TypeId} {v:Value} {n:Nat} {xs:List Value} (h:w.ownsRow base e 1 v n xs):∃ A cap,v=.slice A n cap:=by
 rcases h.2 with ⟨hv,hn⟩|⟨g,cap,cur,hv,_⟩
 · exact ⟨none,0,by rw [hv,hn]⟩
 · exact ⟨_,_,hv⟩
theorem ints_of_own {w:World} {base n:Nat} {A:Option Addr} {cap:Nat} {us:List Int} (h:w.ownsRow base 3 1 (.slice A n cap) us.length (us.map (Value.int .i64))):n=us.length∧IntsAt w w.heap.size A us.length us:=by
 rcases h.2 with ⟨hv,hn⟩|⟨g,c,cur,hv,hbase,hh,hnc,hm,hcs,htk⟩
 · injection hv with h1 h2 h3
   have hus:us=[]:=List.eq_nil_of_length_eq_zero hn
   subst hus
   exact ⟨by simpa using h2,⟨rfl,fun j z hz=>by simp at hz⟩⟩
 · have hv':=hv
   injection hv' with h1 h2 h3
   subst h1
   refine ⟨h2,rfl,fun j z hz=>⟨g,0,rfl,?_,?_⟩⟩
   · exact (h.lt g rfl).2
   · subst h2 h3
     rw [Nat.zero_add,World.ownsRow.cellAt h j (by have:=(List.getElem?_eq_some_iff.1 hz).1;omega),List.getElem?_map,hz]
     rfl
def IntsRow (w:World) (A:Option Addr) (n:Nat) (zs:List Int):Prop:=
 zs.length=n∧(zs=[]∨∃ g c fz,A=some ⟨g,0,none⟩∧w.heap[g]? = some (.cells c 3 fz)∧∀ (j:Nat) z,zs[j]? = some z→c[j]? = some (.int .i64 z))
theorem IntsRow.at {w:World} {A:Option Addr} {n:Nat} {zs:List Int} (h:IntsRow w A n zs) {j:Nat} {z:Int} (hz:zs[j]? = some z):∃ g o,A=some ⟨g,o,none⟩∧w.cell? ⟨g,o+j,none⟩=some (.int .i64 z):=by
 rcases h.2 with rfl|⟨g,c,fz,e,hh,hc⟩
 · simp at hz
 · exact ⟨g,0,e,by simp [World.cell?,hh,hc j z hz]⟩
theorem IntsRow.kept {w w':World} {A:Option Addr} {n b B:Nat} {zs:List Int} {bs:List Value} (h:IntsRow w A n zs) (hB:Lib.IsBuilderF 102 5 B b bs w) (ho:Lib.OthersKept 5 (some b) w w'):IntsRow w' A n zs:=by
 refine ⟨h.1,h.2.imp_right fun ⟨g,c,fz,e,hh,hc⟩=>⟨g,c,fz,e,ho g _ hh ?_ ?_,hc⟩⟩
 · intro e1
   injection e1 with e1
   subst e1
   rcases hB with ⟨_,v,hb,_⟩|⟨_,v,hb,_⟩<;>(rw [hh] at hb;injection hb with hb;injection hb with _ h2 _;exact absurd h2 (by decide))
 · intro c' fz' e1
   injection e1 with _ h2 _
   exact absurd h2 (by decide)
theorem enc_len (c:Int):1≤(Lib.encodeRune c).length∧(Lib.encodeRune c).length≤4:=by
 have:=Lib.encodeRuneZ_length c
 simpa [Lib.encodeRune] using this
def QTo (s:ByteArray) (cs ds rest:List Int) (pos:Nat):Prop:=cs=ds++rest∧s.data.toList.drop pos=bytesOf rest
theorem QTo.next {s:ByteArray} {cs ds rest:List Int} {c:Int} {pos:Nat} (h:QTo s cs ds (c :: rest) pos):QTo s cs (ds++[c]) rest (pos+(Lib.encodeRune c).length):=by
 refine ⟨by rw [h.1];simp,?_⟩
 rw [← List.drop_drop,h.2,show bytesOf (c :: rest)=Lib.encodeRune c++bytesOf rest by simp [bytesOf],List.drop_left]
end Go.Proofs.YtpkmbhnikilihaaGreatDoor
