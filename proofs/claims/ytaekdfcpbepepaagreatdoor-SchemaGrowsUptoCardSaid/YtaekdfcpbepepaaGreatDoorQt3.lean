/- The closure of defs.Possible; slices.IndexFunc and slices.DeleteFunc over it. -/
import Derived.Test.YtaekdfcpbepepaaGreatDoorQt2
import Derived.Lib.SliceRun
set_option maxRecDepth 100000
set_option maxHeartbeats 4000000
namespace Go.Proofs.YtaekdfcpbepepaaGreatDoor
open Go.RowKit
def CapS (S:SchT) (B sb:Nat) (w:World):Prop:=∃ c0 c1 c2,w.heap[sb]? = some (.cells #[c0,c1,c2] 24 (0,0))∧TS w (fun b=>b < B) (encSch S) [c0,c1,c2]
theorem CapS.low {S:SchT} {B sb K:Nat} {w w':World} (h:CapS S B sb w) (hb:Below K w w') (hB:B≤K) (hs:sb < K):CapS S B sb w':=by
 obtain ⟨c0,c1,c2,h1,h2⟩:=h
 exact ⟨c0,c1,c2,(hb.block _ hs).trans h1,TS.low (hb.mono hB) h2⟩
theorem CapS.lt {S:SchT} {B sb:Nat} {w:World} (h:CapS S B sb w):sb < w.heap.size:=by
 obtain ⟨c0,c1,c2,h1,_⟩:=h
 exact (Array.getElem?_eq_some_iff.1 h1).1
theorem three_cells {w:World} {g:Nat} {c0 c1 c2:Value} {t:TypeId} (h:w.heap[g]? = some (.cells #[c0,c1,c2] t (0,0))):w.cell? ⟨g,0,none⟩=some c0∧w.cell? ⟨g,1,none⟩=some c1∧w.cell? ⟨g,2,none⟩=some c2:=by
 simp [World.cell?,h]
def objB (S:SchT) (n:ByteArray):Bool:=isD S.defs n [1]
theorem pos1_any (S:SchT) (n:ByteArray) (w:World) (B sb:Nat) (hB:B≤w.heap.size) (hn:n.size≤9223372036854775807) (hC:CapS S B sb w) :
  Calls Tryz.prog 82 #[.string n,.pointer (some ⟨sb,0,none⟩)] w fun e w'=>e=.returned (.bool (!objB S n))∧Below w.heap.size w w':=by
 obtain ⟨c0,c1,c2,h1,h2⟩:=hC
 have F:=fun (wx:World) (hb:Below w.heap.size w wx) (hk:IntsAt wx wx.heap.size (some ⟨w.heap.size,0,none⟩) [1])=>Hd (is_any S n [1] (some ⟨w.heap.size,0,none⟩) 1 1 c0 c1 c2 wx B (Nat.le_trans hB hb.size) hn (by decide) rfl hk (TS.low (hb.mono hB) h2))
 obtain ⟨A,k,e,_⟩:=sch_cells h2
 injection e with e0 e
 injection e with e1 e
 injection e with e2 e
 subst e0 e1 e2
 obtain ⟨y0,y1,y2⟩:=three_cells h1
 clear hB e hn h1 h2
 unfold objB
 generalize isD S.defs n [1]=x at F ⊢
 have B0:=Hd (fun o=>dbelow_new w o)
 have I0:=Hd (fun (t:TypeId)=>ints_new w (o:=.cells #[.int .i64 1] t) (l:=[1]) (B:=w.heap.size+1) (by simp) rfl)
 go_enter Tryz.func82,Tryz.ntmps82
 go_wp2_with fail
 refine (F _ (B0.out _) (by have:=I0.out 3;simpa using this)).out.mono ?_
 rintro e w1 ⟨rfl,hb1⟩
 have B1:=Hd ((B0.out _).trans (hb1.mono (B0.out _).size))
 clear hb1 F
 go_wp2_with fail
 go_ret
 exact ⟨rfl,B1.out⟩
def FirstO (S:SchT) (xs:List ByteArray) (k:Int):Prop:=(k = -1∧∀ x,x ∈ xs→objB S x=true)∨∃ j:Nat,k=(j:Int)∧(∃ x,xs[j]? = some x∧objB S x=false)∧∀ x,x ∈ xs.take j→objB S x=true
def IdxO (S:SchT) (xs:List ByteArray) (w:World) (e:Ending) (w':World):Prop:=∃ k:Int,e=.returned (.int .i64 k)∧FirstO S xs k∧Below w.heap.size w w'
theorem all_take {S:SchT} {xs:List ByteArray} {k:Nat} {x:ByteArray} (h:∀ y,y ∈ xs.take k→objB S y=true) (hx:xs[k]? = some x) (ho:objB S x=true):∀ y,y ∈ xs.take (k+1)→objB S y=true:=by
 intro y hy
 rw [List.take_add_one,hx] at hy
 rcases List.mem_append.1 hy with h1|h1
 · exact h y h1
 · simp at h1;subst h1;exact ho
theorem indexf_any (S:SchT) (A:Option Addr) (n c:Nat) (xs:List ByteArray) (w:World) (B sb:Nat) (hB:B≤w.heap.size) (hn:n≤9223372036854775807) (hs:StrB xs) (ha:Blk.StrsAt w w.heap.size A n xs) (hC:CapS S B sb w) :
  Calls Tryz.prog 137 #[.slice A n c,.func (.func 82) #[] #[.pointer (some ⟨sb,0,none⟩)]] w (IdxO S xs w):=by
 have hlt:=hC.lt
 have F:=fun (x:ByteArray) (hx:x ∈ xs) (wx:World) (hb:Below w.heap.size w wx)=>Hd (pos1_any S x wx B sb (Nat.le_trans hB hb.size) (hs x hx) (hC.low hb hB hlt))
 have HA:=Hd ha
 clear ha hC hlt hs hB
 go_enter Tryz.func137,Tryz.ntmps137
 go_wp2_with fail
 go_loopg [5,8] n (fun g _ i wx=>∃ k:Nat,k+g=n∧i=.int .i64 k∧Below w.heap.size w wx∧Aside (∀ x,x ∈ xs.take k→objB S x=true))
 case atStart=>exact ⟨0,by omega,rfl,Below.refl _ _,Blk.Aside.intro (by rw [List.take_zero];intro x hx;simp at hx)⟩
 case round =>
  obtain ⟨k,hk,rfl,hb,H⟩:=hrel
  have HBB:=Hd hb
  clear hb
  cases gk with
  | zero =>
    obtain rfl:k=n:=by omega
    have hd:Hid (∀ x,x ∈ xs→objB S x=true):=Hd (by
      have h:=H.out
      rwa [List.take_of_length_le (by rw [HA.out.1];omega)] at h)
    clear H
    go_wp2_with fail
    go_ret
    exact ⟨-1,rfl,.inl ⟨rfl,hd.out⟩,HBB.out⟩
  | succ g =>
    have hlt:k < n:=by omega
    have hlt':(k:Int) < (n:Int):=by omega
    obtain ⟨x,hx⟩:∃ x,xs[k]? = some x:=⟨_,List.getElem?_eq_getElem (by rw [HA.out.1];omega)⟩
    obtain ⟨b1,o1,rfl,hl1,c1⟩:=HA.out.2 k x hx
    have c1:=(HBB.out.cell (p:=⟨b1,o1+k,none⟩) hl1).trans c1
    have HX:=Hd hx
    have hF:=F x (List.mem_of_getElem? hx) wr HBB.out
    clear hx F
    cases ho:objB S x with
    | true =>
      rw [ho] at hF
      have hT:=Hd (all_take H.out HX.out ho)
      clear H
      go_wp2_with fail
      refine hF.out.mono ?_
      rintro e w2 ⟨rfl,hb2⟩
      have B2:=Hd (HBB.out.trans (hb2.mono HBB.out.size))
      clear hb2 hF c1
      go_wp2_with fail
      go_roundg g
      case measure=>omega
      case rel=>exact ⟨k+1,by omega,by go_num,B2.out,Blk.Aside.intro hT.out⟩
    | false =>
      rw [ho] at hF
      have HO:=Hd ho
      have HT:=Hd H.out
      clear H ho
      go_wp2_with fail
      refine hF.out.mono ?_
      rintro e w2 ⟨rfl,hb2⟩
      have B2:=Hd (HBB.out.trans (hb2.mono HBB.out.size))
      clear hb2 hF c1
      go_wp2_with fail
      go_ret
      exact ⟨(k:Int),rfl,.inr ⟨k,rfl,⟨x,HX.out,HO.out⟩,HT.out⟩,B2.out⟩
theorem low_setCells {B:Nat} {a:World} (b:Nat) (hb:B≤b):∀ (vs:List Value) (o:Nat) {w:World},Below B a w→Below B a (w.setCells b o vs)
 | [],_,_,h=>h
 | v :: r,o,_,h=>low_setCells b hb r (o+1) (h.setCell (p:=⟨b,o,none⟩) hb v)
def objL (S:SchT) (xs:List ByteArray):List ByteArray:=xs.filter (objB S)
theorem objL_all {S:SchT} {xs:List ByteArray} (h:∀ x,x ∈ xs→objB S x=true):objL S xs=xs:=List.filter_eq_self.2 h
theorem objL_take {S:SchT} {xs:List ByteArray} {k:Nat} {x:ByteArray} (h:xs[k]? = some x):objL S (xs.take (k+1))=objL S (xs.take k)++(if objB S x=true then [x] else []):=by
 unfold objL
 rw [List.take_add_one,h,List.filter_append]
 congr 1
 simp only [Option.toList_some,List.filter_cons,List.filter_nil]
theorem objL_len (S:SchT) (xs:List ByteArray):(objL S xs).length≤xs.length:=List.length_filter_le _ _
def DelAt (S:SchT) (xs:List ByteArray) (g i j cap:Nat) (w:World):Prop:=
 ∃ cur:Array Value,w.heap[g]? = some (.cells cur 9 (0,0))∧cur.size=cap∧(objL S (xs.take j)).length=i∧(∀ (t:Nat) x,(objL S (xs.take j))[t]? = some x→cur[t]? = some (.string x))∧∀ (t:Nat) x,j≤t→xs[t]? = some x→cur[t]? = some (.string x)
theorem DelAt.low {S:SchT} {xs:List ByteArray} {g i j cap K:Nat} {w w':World} (h:DelAt S xs g i j cap w) (hb:Below K w w') (hg:g < K):DelAt S xs g i j cap w':=by
 obtain ⟨cur,h1,h2⟩:=h
 exact ⟨cur,(hb.block _ hg).trans h1,h2⟩
theorem DelAt.lt {S:SchT} {xs:List ByteArray} {g i j cap:Nat} {w:World} (h:DelAt S xs g i j cap w):g < w.heap.size:=by
 obtain ⟨cur,h1,_⟩:=h
 exact (Array.getElem?_eq_some_iff.1 h1).1
theorem cells_get {w:World} {g:Nat} {cur:Array Value} {t:TypeId} (h:w.heap[g]? = some (.cells cur t (0,0))) (i:Nat):w.cell? ⟨g,i,none⟩=cur[i]?:=by
 simp [World.cell?,h]
theorem cells_frozen {w:World} {g:Nat} {cur:Array Value} {t:TypeId} (h:w.heap[g]? = some (.cells cur t (0,0))) (i:Nat):w.frozen? ⟨g,i,none⟩=false:=by
 simp [World.frozen?,h]
theorem DelAt.skip {S:SchT} {xs:List ByteArray} {g i j cap:Nat} {w:World} {x:ByteArray} (h:DelAt S xs g i j cap w) (hx:xs[j]? = some x) (ho:objB S x=false):DelAt S xs g i (j+1) cap w:=by
 obtain ⟨cur,h1,h2,h3,h4,h5⟩:=h
 have e:objL S (xs.take (j+1))=objL S (xs.take j):=by rw [objL_take hx,ho];simp
 exact ⟨cur,h1,h2,by rw [e];exact h3,by rw [e];exact h4,fun t y ht hy=>h5 t y (by omega) hy⟩
theorem DelAt.put {S:SchT} {xs:List ByteArray} {g i j cap:Nat} {w:World} {x:ByteArray} (h:DelAt S xs g i j cap w) (hx:xs[j]? = some x) (ho:objB S x=true) (hic:i < cap) (hij:i≤j):DelAt S xs g (i+1) (j+1) cap (w.setCell ⟨g,i,none⟩ (.string x)):=by
 obtain ⟨cur,h1,h2,h3,h4,h5⟩:=h
 have e:objL S (xs.take (j+1))=objL S (xs.take j)++[x]:=by rw [objL_take hx,ho];simp
 refine ⟨cur.setIfInBounds i (.string x),?_,by simp [h2],by rw [e,List.length_append,h3];rfl,fun t y hy=>?_,fun t y ht hy=>?_⟩
 · simp only [World.setCell,Array.getElem?_modify,h1]
   simp
 · rw [e] at hy
   by_cases ht:t < i
   · rw [List.getElem?_append_left (by omega)] at hy
     rw [Array.getElem?_setIfInBounds_ne (by omega)]
     exact h4 t y hy
   · rw [List.getElem?_append_right (by omega)] at hy
     have:t=i:=by
      have:=(List.getElem?_eq_some_iff.1 hy).1
      simp at this
      omega
     subst this
     rw [h3,Nat.sub_self] at hy
     have:x=y:=by simpa using hy
     subst this
     simp [h2,hic]
 · rw [Array.getElem?_setIfInBounds_ne (by omega)]
   exact h5 t y (by omega) hy
def RowR (base:Nat) (xs:List ByteArray) (w:World) (e:Ending) (w':World):Prop:=∃ A c,e=.returned (.slice A xs.length c)∧Blk.StrsAt w' w'.heap.size A xs.length xs∧Below base w w'
theorem DelAt.start {S:SchT} {base:Nat} {w w1:World} {A:Option Addr} {c:Nat} {xs:List ByteArray} {j:Nat} {x:ByteArray} (h:SR base w (.slice A xs.length c) xs) (hb:Below w.heap.size w w1) (hx:xs[j]? = some x) (ho:objB S x=false) (hall:∀ y,y ∈ xs.take j→objB S y=true) :
   ∃ g,A=some ⟨g,0,none⟩∧base≤g∧xs.length≤c∧DelAt S xs g j (j+1) c w1:=by
 have hj:j < xs.length:=(List.getElem?_eq_some_iff.1 hx).1
 rcases h.2 with ⟨_,h0⟩|⟨g,cap,cur,e,hbg,hg,hnc,hm,hcs,htk⟩
 · omega
 · injection e with e1 e2 e3
   subst e1 e3
   have hlt:g < w.heap.size:=(Array.getElem?_eq_some_iff.1 hg).1
   have e:objL S (xs.take (j+1))=xs.take j:=by rw [objL_take hx,ho,objL_all hall];simp
   have hcell:∀ (t:Nat) y,xs[t]? = some y→cur[t]? = some (.string y):=fun t y hy=>by
     have ht:t < xs.length:=(List.getElem?_eq_some_iff.1 hy).1
     have h1:(cur.toList.take (xs.length*1))[t]? = (xs.map Value.string)[t]?:=by rw [htk]
     rw [List.getElem?_take,if_pos (by omega),List.getElem?_map,hy] at h1
     simpa using h1
   refine ⟨g,rfl,hbg,hnc,cur,(hb.block _ hlt).trans hg,by rw [hcs,Nat.mul_one],by rw [e,List.length_take];omega,fun t y hy=>?_,fun t y _ hy=>hcell t y hy⟩
   rw [e] at hy
   have hy2:=hy
   rw [List.getElem?_take] at hy
   split at hy
   · exact hcell t y hy
   · cases hy
theorem RowS.row {xs:List ByteArray} {w:World} {e:Ending} {w':World} (h:RowS xs w e w'):RowR w.heap.size xs w e w':=by
 obtain ⟨V,rfl,h1,h2⟩:=h
 obtain ⟨A,c,rfl,h3⟩:=h1.strs
 exact ⟨A,c,rfl,h3,h2⟩
theorem delete_any (S:SchT) (V:Value) (xs:List ByteArray) (w:World) (B base sb:Nat) (hB:B≤base) (hbs:base≤w.heap.size) (hsb:sb < base) (hn:xs.length≤9223372036854775807) (hs:StrB xs) (hV:SR base w V xs) (hC:CapS S B sb w) :
   Calls Tryz.prog 81 #[V,.func (.func 82) #[] #[.pointer (some ⟨sb,0,none⟩)]] w (RowR base (objL S xs) w):=by
 obtain ⟨A,c,rfl,hA⟩:=hV.strs
 have F:=fun (x:ByteArray) (hx:x ∈ xs) (wx:World) (hb:Below base w wx)=>Hd (pos1_any S x wx B sb (Nat.le_trans hB (Nat.le_trans hbs hb.size)) (hs x hx) (hC.low hb hB hsb))
 have I0:=Hd (indexf_any S A xs.length c xs w B sb (Nat.le_trans hB hbs) hn hs hA hC)
 have HV:=Hd hV
 have HA:=Hd hA
 have HBS:=Hd hbs
 clear hV hA hC hs hbs
 go_enter Tryz.func81,Tryz.ntmps81
 go_wp2_with fail
 refine I0.out.mono ?_
 rintro e w1 ⟨k,rfl,hk,hb1⟩
 have B1:=Hd hb1
 rcases hk with ⟨rfl,hall⟩|⟨j0,rfl,⟨x0,hx0,ho0⟩,hall⟩
 · have HALL:=Hd (objL_all hall)
   clear hall hb1 F
   go_wp2_with fail
   go_ret
   refine ⟨A,c,by rw [HALL.out];rfl,?_,B1.out.mono HBS.out⟩
   rw [HALL.out]
   exact (HA.out.below B1.out).more B1.out.size
 · obtain ⟨g0,rfl,hbg,hlc,hD⟩:=DelAt.start HV.out hb1 hx0 ho0 hall
   have hj0:j0 < xs.length:=(List.getElem?_eq_some_iff.1 hx0).1
   have HD:=Hd hD
   have e1:((j0:Int) == -1)=false:=by rw [beq_eq_false_iff_ne];omega
   have HBG:=Hd hbg
   clear hall hb1 hx0 ho0 hD hbg I0 HA HV
   go_wp2_with fail
   go_loopg [5,6] (xs.length - (j0+1)) (fun gk i j wx=>∃ p q:Nat,q+gk=xs.length∧p < q∧i=.int .i64 p∧j=.int .i64 q∧Aside (DelAt S xs g0 p q c wx∧Below base w wx))
   case atStart=>exact ⟨j0,j0+1,by omega,by omega,rfl,by go_num,Blk.Aside.intro ⟨HD.out,B1.out.mono HBS.out⟩⟩
   case round =>
    obtain ⟨p,q,hq,hpq,rfl,rfl,HX⟩:=hrel
    obtain ⟨hD,hb⟩:=HX.out
    have HDX:=Hd hD
    have HBB:=Hd hb
    clear HX hb hD HD
    cases gk with
    | zero =>
      obtain rfl:q=xs.length:=by omega
      obtain ⟨cur,h1,h2,h3,h4,h5⟩:=HDX.out
      rw [List.take_length] at h3 h4
      have hcl:∀ ty,(Builtin.clear_ #[32] ty #[.slice (some ⟨g0,p,none⟩) (xs.length - p) (c - p)]).run Tryz.prog wr=.ok (.tuple #[]) (wr.setCells g0 p (List.replicate (xs.length - p) (.string ⟨#[]⟩))):=
        fun ty=>Lib.run_clear_slice wr 32 9 ty (.string ⟨#[]⟩) Tryz.underlying32 (fun _=>rfl) rfl rfl g0 p (xs.length - p) (c - p) (by omega) (fun t ht=>by rw [cells_get h1];simp;omega) (fun t _=>cells_frozen h1 _)
      have HE:=Hd (And.intro h1 (And.intro h3 h4))
      have hpc:p≤c:=by omega
      have hpn:p≤xs.length:=by omega
      have hpc' : ¬ c=p:=by omega
      have hpc2 : ¬ c - p=0:=by omega
      clear h1 h2 h3 h4 h5 F
      go_wp2_with fail
      go_ret
      obtain ⟨h1,h3,h4⟩:=HE.out
      have hlt:g0 < wr.heap.size:=HDX.out.lt
      have BS:=low_setCells (B:=base) g0 HBG.out (List.replicate (xs.length - p) (.string ⟨#[]⟩)) p HBB.out
      have BS2:=(low_setCells (B:=g0) g0 (Nat.le_refl _) (List.replicate (xs.length - p) (.string ⟨#[]⟩)) p (Below.refl g0 wr)).size
      refine ⟨some ⟨g0,0,none⟩,c,by rw [h3];rfl,⟨rfl,fun t y hy=>⟨g0,0,rfl,Nat.lt_of_lt_of_le hlt BS2,?_⟩⟩,BS⟩
      have ht:t < p:=by have:=(List.getElem?_eq_some_iff.1 hy).1;omega
      rw [World.cell?_setCells_out g0 _ p wr _ (fun _ _=>.inl (by show 0+t < p;omega)),Nat.zero_add]
      exact (cells_get h1 t).trans (h4 t y hy)
    | succ g =>
      have hqn:q < xs.length:=by omega
      have hqn':(q:Int) < (xs.length:Int):=by omega
      obtain ⟨x,hx⟩:∃ x,xs[q]? = some x:=⟨_,List.getElem?_eq_getElem hqn⟩
      have hF:=F x (List.mem_of_getElem? hx) wr HBB.out
      obtain ⟨cur,h1,h2,h3,h4,h5⟩:=HDX.out
      have c1:wr.cell? ⟨g0,q,none⟩=some (.string x):=(cells_get h1 q).trans (h5 q x (Nat.le_refl _) hx)
      have HX:=Hd hx
      clear h1 h2 h3 h4 h5 hx F
      cases ho:objB S x with
      | true =>
        rw [ho] at hF
        have HO:=Hd ho
        clear ho
        go_wp2_with fail
        refine hF.out.mono ?_
        rintro e w2 ⟨rfl,hb2⟩
        have B2:=Hd hb2
        have D2:=Hd (HDX.out.low hb2 HDX.out.lt)
        obtain ⟨cur,h1,h2,h3,h4,h5⟩:=D2.out
        have f1:w2.cell? ⟨g0,p,none⟩=some cur[p]!:=by rw [cells_get h1,getElem!_pos cur p (by omega),Array.getElem?_eq_getElem (by omega)]
        have f2:=cells_frozen h1 p
        clear hb2 hF c1 h1 h3 h4 h5 h2
        go_wp2_with fail
        go_roundg g
        case measure=>omega
        case rel=>exact ⟨p+1,q+1,by omega,by omega,by go_num,by go_num,Blk.Aside.intro ⟨D2.out.put HX.out HO.out (by omega) (by omega),(HBB.out.trans (B2.out.mono (Nat.le_trans HBS.out HBB.out.size))).setCell HBG.out _⟩⟩
      | false =>
        rw [ho] at hF
        have HO:=Hd ho
        clear ho
        go_wp2_with fail
        refine hF.out.mono ?_
        rintro e w2 ⟨rfl,hb2⟩
        have B2:=Hd hb2
        have D2:=Hd (HDX.out.low hb2 HDX.out.lt)
        clear hb2 hF c1
        go_wp2_with fail
        go_roundg g
        case measure=>omega
        case rel=>exact ⟨p,q+1,by omega,by omega,rfl,by go_num,Blk.Aside.intro ⟨D2.out.skip HX.out HO.out,HBB.out.trans (B2.out.mono (Nat.le_trans HBS.out HBB.out.size))⟩⟩
def SlimF (f:FieldT):Prop:=f.params.length*136≤140737488355328∧f.dirs.length*40≤140737488355328∧∀ x,x ∈ f.dirs→x.2.len*96≤140737488355328
def SlimD (d:DefnT):Prop:=d.faces.length*16≤140737488355328∧d.fields.length*96≤140737488355328∧d.parts.length*16≤140737488355328∧d.params.length*136≤140737488355328∧∀ f,f ∈ d.fields→SlimF f
def SlimS (S:SchT):Prop:=S.defs.length*120≤140737488355328∧∀ d,d ∈ S.defs→SlimD d
theorem slim_none (k:Int) (n:ByteArray):SlimD ⟨k,n,[],[],[],[]⟩:=⟨by simp,by simp,by simp,by simp,fun f h=>by simp at h⟩
theorem findL_mem {l:List DefnT} {n:ByteArray} : (findL l n).1 ∈ l∨(findL l n).1=zeroD:=by
 induction l with
 | nil=>exact .inr rfl
 | cons d t ih =>
   rw [findL]
   split
   · exact .inl (List.mem_cons_self ..)
   · rcases ih with h|h
     · exact .inl (List.mem_cons_of_mem _ h)
     · exact .inr h
theorem find_slim {l:List DefnT} (h:∀ d,d ∈ l→SlimD d) (n:ByteArray):SlimD (findD l n).1:=by
 unfold findD
 split
 · exact slim_none _ _
 · rcases findL_mem (l:=l) (n:=n) with e|e
   · exact h _ e
   · rw [e];exact slim_none _ _
theorem defs_bd {w:World} {P:Nat→Prop} : ∀ {l:List DefnT} {A:Option Addr},RowT w P (rowOf encDefn l) A→∀ d,d ∈ l→d.name.size≤9223372036854775807∧StrB d.faces∧StrB d.parts
 | [],_,_=>fun d h=>by simp at h
 | a :: t,A,h=>fun d hd=>by
   rw [rowOf] at h
   unfold RowT at h
   obtain ⟨b,o,cs,_,_,_,h1,h2⟩:=h
   rcases List.mem_cons.1 hd with rfl|hd
   · obtain ⟨Af,kf,Ax,kx,Ap,kp,Am,km,_,hz,⟨_,hf⟩,_,⟨_,hp⟩,_⟩:=defn_cells h1
     exact ⟨hz,str_bd hf,str_bd hp⟩
   · exact defs_bd h2 d hd
theorem bearers_bd {l:List DefnT} {f:ByteArray} (h:∀ d,d ∈ l→d.name.size≤9223372036854775807):StrB (bearersL l f):=by
 induction l with
 | nil=>intro s hs;simp [bearersL] at hs
 | cons a t ih =>
   have ih:=ih (fun d hd=>h d (List.mem_cons_of_mem _ hd))
   intro s hs
   rw [bearersL] at hs
   split at hs
   · rcases List.mem_cons.1 hs with rfl|hs
     · exact h a (List.mem_cons_self ..)
     · exact ih s hs
   · exact ih s hs
theorem adds_mem:∀ (l out:List ByteArray) (s:ByteArray),s ∈ l.foldl addN out→s ∈ out∨s ∈ l
 | [],out,s,h=>.inl h
 | a :: t,out,s,h=>by
   rw [List.foldl_cons] at h
   rcases adds_mem t _ s h with h1|h1
   · unfold addN at h1
     split at h1
     · exact .inl h1
     · rcases List.mem_append.1 h1 with h2|h2
       · exact .inl h2
       · simp at h2;subst h2;exact .inr (List.mem_cons_self ..)
   · exact .inr (List.mem_cons_of_mem _ h1)
theorem once_mem {xs:List ByteArray} {s:ByteArray} (h:s ∈ onceL xs):s ∈ xs:=by
 rcases adds_mem xs [] s h with h|h
 · simp at h
 · exact h
theorem once_bd {xs:List ByteArray} (h:StrB xs):StrB (onceL xs):=fun s hs=>h s (once_mem hs)
def possL (S:SchT) (n:ByteArray):List ByteArray:=
 if (findD S.defs n).2=true then
  (if ((findD S.defs n).1.kind == 1)=true then [n] else if ((findD S.defs n).1.kind == 2)=true then onceL (bearersL S.defs n) else if ((findD S.defs n).1.kind == 3)=true then objL S (onceL (findD S.defs n).1.parts) else [])
 else []
theorem strs_lit {w:World} {n:ByteArray} {t:TypeId} : Blk.StrsAt (w.alloc (.cells #[.string n] t)) (w.heap.size+1) (some ⟨w.heap.size,0,none⟩) 1 [n]:=by
 refine ⟨rfl,fun j x hx=>⟨_,_,rfl,Nat.lt_succ_self _,?_⟩⟩
 have h0:j=0:=by have:=(List.getElem?_eq_some_iff.1 hx).1;simp at this;exact this
 subst h0
 have:n=x:=by simpa using hx
 subst this
 rw [Nat.add_zero,World.cell?_alloc_at _ _ _ _ rfl]
 rfl
theorem strs_lit2 {w:World} {n:ByteArray} {t:TypeId} {g:Nat} (hg:w.heap.size=g):Blk.StrsAt (w.alloc (.cells #[.string n] t)) (w.alloc (.cells #[.string n] t)).heap.size (some ⟨g,0,none⟩) 1 [n]:=by subst hg;exact strs_lit.more (by simp)
theorem poss_any (S:SchT) (n:ByteArray) (c0 c1 c2:Value) (w:World) (B:Nat) (hB:B≤w.heap.size) (hn:n.size≤9223372036854775807) (hz:SlimS S) (hS:TS w (fun b=>b < B) (encSch S) [c0,c1,c2]) :
   Calls Tryz.prog 40 #[.agg #[c0,c1,c2],.string n] w (RowR w.heap.size (possL S n) w):=by
 have F:=Hd (fun (wx:World) (hb:Below w.heap.size w wx)=>find_any S n c0 c1 c2 wx B (Nat.le_trans hB hb.size) hn (TS.low (hb.mono hB) hS))
 have G:=Hd (fun (wx:World) (hb:Below w.heap.size w wx)=>bearers_any S n c0 c1 c2 wx B (Nat.le_trans hB hb.size) (by have:=hz.1;omega) (TS.low (hb.mono hB) hS))
 have FS:=Hd (find_slim hz.2 n)
 have HS0:=Hd hS
 obtain ⟨A,k,e,hl,hR⟩:=sch_cells hS
 injection e with e0 e
 injection e with e1 e
 injection e with e2 e
 subst e0 e1 e2
 have HB0:=Hd hB
 have HZ:=Hd hz
 have HDB:=Hd (defs_bd hR)
 have B0:=Hd (dbelow_new w (.cells #[.slice A S.defs.length k,.string S.query,.string S.mutation] 24))
 have X0:=Hd (heap_alloc_new w (.cells #[.slice A S.defs.length k,.string S.query,.string S.mutation] 24))
 have hmf:∀ (fn:Fn) (first cap:Array Value) (w:World),(Instr.makeFunc fn first cap).run Tryz.prog w=.ok (.func fn first cap) w:=fun _ _ _ _=>rfl
 clear hB hS hR e hl hz
 obtain ⟨x,hx⟩:∃ x,findD S.defs n=x:=⟨_,rfl⟩
 have HQ:Hid (possL S n=if x.2=true then
   (if (x.1.kind == 1)=true then [n] else if (x.1.kind == 2)=true then onceL (bearersL S.defs n) else if (x.1.kind == 3)=true then objL S (onceL x.1.parts) else [])
 else []):=Hd (by unfold possL;rw [hx])
 generalize possL S n=Q at HQ ⊢
 rw [hx] at F FS
 clear hx
 obtain ⟨d,ok⟩:=x
 go_enter Tryz.func40,Tryz.ntmps40
 go_wp2_with fail
 refine (F.out _ B0.out).mono ?_
 rintro e w1 ⟨d0,d1,d2,d3,d4,d5,rfl,hT,hb1⟩
 have HT:=Hd hT
 obtain ⟨Af,kf,Ax,kx,Ap,kp,Am,km,e,_,_,_,⟨hlp,hrp⟩,_⟩:=defn_cells hT
 simp only [List.cons.injEq,and_true] at e
 obtain ⟨rfl,rfl,rfl,rfl,rfl,rfl⟩:=e
 have B1:=Hd (B0.out.trans (hb1.mono B0.out.size))
 have HP:=Hd hrp
 have HX1:=Hd ((hb1.block w.heap.size (by simp)).trans X0.out)
 have hlw:=Nat.lt_of_lt_of_le (show w.heap.size < (w.alloc (.cells #[.slice A S.defs.length k,.string S.query,.string S.mutation] 24)).heap.size by simp) hb1.size
 clear hT hb1 F hrp
 cases ok with
 | false =>
   go_wp2_with fail
   go_ret
   have hQ:Q=[]:=HQ.out
   subst hQ
   exact ⟨none,0,rfl,⟨rfl,fun j x hx=>by simp at hx⟩,B1.out.alloc B1.out.size _⟩
 | true =>
   have B2:=Hd (fun o=>B1.out.alloc B1.out.size o)
   have D2:=fun o=>Hd (dbelow_new w1 o)
   have hs1:=B1.out.size
   cases k1:(d.kind == 1) with
   | true =>
     have hQ:Q=[n]:=HQ.out.trans (by simp [k1])
     subst hQ
     go_wp2_with fail
     go_ret
     exact ⟨_,1,rfl,strs_lit2 (by simp),(B2.out _).alloc (B2.out _).size _⟩
   | false =>
     cases k2:(d.kind == 2) with
     | true =>
       have hQ:Q=onceL (bearersL S.defs n):=HQ.out.trans (by simp [k1,k2])
       have HBD:=Hd (once_bd (bearers_bd (f:=n) (fun d hd=>(HDB.out d hd).1)))
       have HLE:=Hd (show (bearersL S.defs n).length*16≤140737488355328 by have:=bearers_len S.defs n;have:=HZ.out.1;omega)
       have HQ2:=Hd hQ
       clear hQ
       obtain ⟨z0,z1,z2⟩:=three_cells HX1.out
       go_wp2_with fail
       refine (G.out _ (B2.out _)).mono ?_
       rintro e w2 ⟨V,rfl,h2,hb2⟩
       obtain ⟨A2,k2',rfl,hs2⟩:=h2.strs
       have O2:=Hd hs2
       have B3:=Hd ((B2.out _).trans (hb2.mono (B2.out _).size))
       clear h2 hb2 hs2
       go_wp2_with fail
       refine (once_any A2 (bearersL S.defs n).length k2' (bearersL S.defs n) w2 HLE.out (bearers_bd (fun d hd=>(HDB.out d hd).1)) O2.out).mono ?_
       rintro e w3 h3
       obtain ⟨A3,k3,rfl,hs3,hb3⟩:=h3.row
       have O3:=Hd hs3
       have B4:=Hd (B3.out.trans (hb3.mono B3.out.size))
       clear h3 hs3 hb3
       go_wp2_with fail
       go_ret
       have hQ:=HQ2.out
       subst hQ
       exact ⟨A3,k3,rfl,O3.out,B4.out⟩
     | false =>
       cases k3:(d.kind == 3) with
       | false =>
         have hQ:Q=[]:=HQ.out.trans (by simp [k1,k2,k3])
         subst hQ
         go_wp2_with fail
         go_ret
         exact ⟨none,0,rfl,⟨rfl,fun j x hx=>by simp at hx⟩,B2.out _⟩
       | true =>
         have hQ:Q=objL S (onceL d.parts):=HQ.out.trans (by simp [k1,k2,k3])
         have HQ2:=Hd hQ
         clear hQ
         go_wp2_with fail
         refine (once_any Ap d.parts.length kp d.parts _ FS.out.2.2.1 (str_bd HP.out) (((str_row HP.out).below ((D2 _).out.mono (Nat.le_trans HB0.out hs1))).more (Nat.le_trans HB0.out (Nat.le_trans hs1 (D2 _).out.size)))).mono ?_
         rintro e w3 ⟨V,rfl,h3,hb3⟩
         have O3:=Hd h3
         have B3:=Hd ((B2.out _).trans (hb3.mono (B2.out _).size))
         have C3:=Hd (show CapS S B w.heap.size w3 from ⟨_,_,_,((hb3.mono (D2 _).out.size).block _ hlw).trans (((D2 _).out.block _ hlw).trans HX1.out),TS.low (B3.out.mono HB0.out) HS0.out⟩)
         have hb3s:=hb3.size
         clear h3 hb3
         go_wp2_with fail
         refine (delete_any S V (onceL d.parts) w3 B (w1.heap.size+1) w.heap.size (by have:=HB0.out;omega) (by simp at hb3s;omega) (by omega) (by have:=once_len d.parts;omega) (once_bd (str_bd HP.out)) (O3.out.mono (by simp)) C3.out).mono ?_
         rintro e w4 ⟨A4,k4,rfl,hs4,hb4⟩
         have O4:=Hd hs4
         have B4:=Hd (B3.out.trans (hb4.mono (by omega)))
         clear hs4 hb4
         go_wp2_with fail
         go_ret
         have hQ:=HQ2.out
         subst hQ
         exact ⟨A4,k4,rfl,O4.out,B4.out⟩
end Go.Proofs.YtaekdfcpbepepaaGreatDoor
