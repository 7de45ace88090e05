/- The closure of defs.Possible; slices.IndexFunc and slices.DeleteFunc over it. -/
import Derived.Test.YtaekdfcpbepepaaGreatDoorQb2
import Derived.Lib.SliceRun
set_option maxRecDepth 100000
set_option maxHeartbeats 4000000
namespace Go.Proofs.YtaekdfcpbepepaaGreatDoor
open Go.RowKit
def CapS (S:SchT) (B sb:Nat) (w:World):Prop:=∃ c0 c1 c2,w.heap[sb]? = some (.cells #[c0,c1,c2] 24 (0,0))∧TS w (fun b=>b < B) (encSch S) [c0,c1,c2]
theorem CapS.low {S:SchT} {B sb K:Nat} {w w':World} (h:CapS S B sb w) (hb:Below K w w') (hB:B≤K) (hs:sb < K):CapS S B sb w':=by
 obtain ⟨c0,c1,c2,h1,h2⟩:=h
 exact ⟨c0,c1,c2,(hb.block _ hs).trans h1,TS.low (hb.mono hB) h2⟩
theorem CapS.lt {S:SchT} {B sb:Nat} {w:World} (h:CapS S B sb w):sb < w.heap.size:=by
 obtain ⟨c0,c1,c2,h1,_⟩:=h
 exact (Array.getElem?_eq_some_iff.1 h1).1
theorem three_cells {w:World} {g:Nat} {c0 c1 c2:Value} {t:TypeId} (h:w.heap[g]? = some (.cells #[c0,c1,c2] t (0,0))):w.cell? ⟨g,0,none⟩=some c0∧w.cell? ⟨g,1,none⟩=some c1∧w.cell? ⟨g,2,none⟩=some c2:=by
 simp [World.cell?,h]
def objB (S:SchT) (n:ByteArray):Bool:=isD S.defs n [1]
theorem pos1_any (S:SchT) (n:ByteArray) (w:World) (B sb:Nat) (hB:B≤w.heap.size) (hn:n.size≤9223372036854775807) (hC:CapS S B sb w) :
  Calls Tryz.prog 82 #[.string n,.pointer (some ⟨sb,0,none⟩)] w fun e w'=>e=.returned (.bool (!objB S n))∧Below w.heap.size w w':=by
 obtain ⟨c0,c1,c2,h1,h2⟩:=hC
 have F:=fun (wx:World) (hb:Below w.heap.size w wx) (hk:IntsAt wx wx.heap.size (some ⟨w.heap.size,0,none⟩) [1])=>Hd (is_any S n [1] (some ⟨w.heap.size,0,none⟩) 1 1 c0 c1 c2 wx B (Nat.le_trans hB hb.size) hn (by decide) rfl hk (TS.low (hb.mono hB) h2))
 obtain ⟨A,k,e,_⟩:=sch_cells h2
 injection e with e0 e
 injection e with e1 e
 injection e with e2 e
 subst e0 e1 e2
 obtain ⟨y0,y1,y2⟩:=three_cells h1
 clear hB e hn h1 h2
 unfold objB
 generalize isD S.defs n [1]=x at F ⊢
 have B0:=Hd (fun o=>dbelow_new w o)
 have I0:=Hd (fun (t:TypeId)=>ints_new w (o:=.cells #[.int .i64 1] t) (l:=[1]) (B:=w.heap.size+1) (by simp) rfl)
 go_enter Tryz.func82,Tryz.ntmps82
 go_wp2_with fail
 refine (F _ (B0.out _) (by have:=I0.out 3;simpa using this)).out.mono ?_
 rintro e w1 ⟨rfl,hb1⟩
 have B1:=Hd ((B0.out _).trans (hb1.mono (B0.out _).size))
 clear hb1 F
 go_wp2_with fail
 go_ret
 exact ⟨rfl,B1.out⟩
def FirstO (S:SchT) (xs:List ByteArray) (k:Int):Prop:=(k = -1∧∀ x,x ∈ xs→objB S x=true)∨∃ j:Nat,k=(j:Int)∧(∃ x,xs[j]? = some x∧objB S x=false)∧∀ x,x ∈ xs.take j→objB S x=true
def IdxO (S:SchT) (xs:List ByteArray) (w:World) (e:Ending) (w':World):Prop:=∃ k:Int,e=.returned (.int .i64 k)∧FirstO S xs k∧Below w.heap.size w w'
theorem all_take {S:SchT} {xs:List ByteArray} {k:Nat} {x:ByteArray} (h:∀ y,y ∈ xs.take k→objB S y=true) (hx:xs[k]? = some x) (ho:objB S x=true):∀ y,y ∈ xs.take (k+1)→objB S y=true:=by
 intro y hy
 rw [List.take_add_one,hx] at hy
 rcases List.mem_append.1 hy with h1|h1
 · exact h y h1
 · simp at h1;subst h1;exact ho
theorem indexf_any (S:SchT) (A:Option Addr) (n c:Nat) (xs:List ByteArray) (w:World) (B sb:Nat) (hB:B≤w.heap.size) (hn:n≤9223372036854775807) (hs:StrB xs) (ha:Blk.StrsAt w w.heap.size A n xs) (hC:CapS S B sb w) :
  Calls Tryz.prog 137 #[.slice A n c,.func (.func 82) #[] #[.pointer (some ⟨sb,0,none⟩)]] w (IdxO S xs w):=by
 have hlt:=hC.lt
 have F:=fun (x:ByteArray) (hx:x ∈ xs) (wx:World) (hb:Below w.heap.size w wx)=>Hd (pos1_any S x wx B sb (Nat.le_trans hB hb.size) (hs x hx) (hC.low hb hB hlt))
 have HA:=Hd ha
 clear ha hC hlt hs hB
 go_enter Tryz.func137,Tryz.ntmps137
 go_wp2_with fail
 go_loopg [5,8] n (fun g _ i wx=>∃ k:Nat,k+g=n∧i=.int .i64 k∧Below w.heap.size w wx∧Aside (∀ x,x ∈ xs.take k→objB S x=true))
 case atStart=>exact ⟨0,by omega,rfl,Below.refl _ _,Blk.Aside.intro (by rw [List.take_zero];intro x hx;simp at hx)⟩
 case round =>
  obtain ⟨k,hk,rfl,hb,H⟩:=hrel
  have HBB:=Hd hb
  clear hb
  cases gk with
  | zero =>
    obtain rfl:k=n:=by omega
    have hd:Hid (∀ x,x ∈ xs→objB S x=true):=Hd (by
      have h:=H.out
      rwa [List.take_of_length_le (by rw [HA.out.1];omega)] at h)
    clear H
    go_wp2_with fail
    go_ret
    exact ⟨-1,rfl,.inl ⟨rfl,hd.out⟩,HBB.out⟩
  | succ g =>
    have hlt:k < n:=by omega
    have hlt':(k:Int) < (n:Int):=by omega
    obtain ⟨x,hx⟩:∃ x,xs[k]? = some x:=⟨_,List.getElem?_eq_getElem (by rw [HA.out.1];omega)⟩
    obtain ⟨b1,o1,rfl,hl1,c1⟩:=HA.out.2 k x hx
    have c1:=(HBB.out.cell (p:=⟨b1,o1+k,none⟩) hl1).trans c1
    have HX:=Hd hx
    have hF:=F x (List.mem_of_getElem? hx) wr HBB.out
    clear hx F
    cases ho:objB S x with
    | true =>
      rw [ho] at hF
      have hT:=Hd (all_take H.out HX.out ho)
      clear H
      go_wp2_with fail
      refine hF.out.mono ?_
      rintro e w2 ⟨rfl,hb2⟩
      have B2:=Hd (HBB.out.trans (hb2.mono HBB.out.size))
      clear hb2 hF c1
      go_wp2_with fail
      go_roundg g
      case measure=>omega
      case rel=>exact ⟨k+1,by omega,by go_num,B2.out,Blk.Aside.intro hT.out⟩
    | false =>
      rw [ho] at hF
      have HO:=Hd ho
      have HT:=Hd H.out
      clear H ho
      go_wp2_with fail
      refine hF.out.mono ?_
      rintro e w2 ⟨rfl,hb2⟩
      have B2:=Hd (HBB.out.trans (hb2.mono HBB.out.size))
      clear hb2 hF c1
      go_wp2_with fail
      go_ret
      exact ⟨(k:Int),rfl,.inr ⟨k,rfl,⟨x,HX.out,HO.out⟩,HT.out⟩,B2.out⟩
theorem low_setCells {B:Nat} {a:World} (b:Nat) (hb:B≤b):∀ (vs:List Value) (o:Nat) {w:World},Below B a w→Below B a (w.setCells b o vs)
 | [],_,_,h=>h
 | v :: r,o,_,h=>low_setCells b hb r (o+1) (h.setCell (p:=⟨b,o,none⟩) hb v)
def objL (S:SchT) (xs:List ByteArray):List ByteArray:=xs.filter (objB S)
theorem objL_all {S:SchT} {xs:List ByteArray} (h:∀ x,x ∈ xs→objB S x=true):objL S xs=xs:=List.filter_eq_self.2 h
theorem objL_take {S:SchT} {xs:List ByteArray} {k:Nat} {x:ByteArray} (h:xs[k]? = some x):objL S (xs.take (k+1))=objL S (xs.take k)++(if objB S x=true then [x] else []):=by
 unfold objL
 rw [List.take_add_one,h,List.filter_append]
 congr 1
 simp only [Option.toList_some,List.filter_cons,List.filter_nil]
theorem objL_len (S:SchT) (xs:List ByteArray):(objL S xs).length≤xs.length:=List.length_filter_le _ _
def DelAt (S:SchT) (xs:List ByteArray) (g i j cap:Nat) (w:World):Prop:=
 ∃ cur:Array Value,w.heap[g]? = some (.cells cur 9 (0,0))∧cur.size=cap∧(objL S (xs.take j)).length=i∧(∀ (t:Nat) x,(objL S (xs.take j))[t]? = some x→cur[t]? = some (.string x))∧∀ (t:Nat) x,j≤t→xs[t]? = some x→cur[t]? = some (.string x)
theorem DelAt.low {S:SchT} {xs:List ByteArray} {g i j cap K:Nat} {w w':World} (h:DelAt S xs g i j cap w) (hb:Below K w w') (hg:g < K):DelAt S xs g i j cap w':=by
 obtain ⟨cur,h1,h2⟩:=h
 exact ⟨cur,(hb.block _ hg).trans h1,h2⟩
theorem DelAt.lt {S:SchT} {xs:List ByteArray} {g i j cap:Nat} {w:World} (h:DelAt S xs g i j cap w):g < w.heap.size:=by
 obtain ⟨cur,h1,_⟩:=h
 exact (Array.getElem?_eq_some_iff.1 h1).1
theorem cells_get {w:World} {g:Nat} {cur:Array Value} {t:TypeId} (h:w.heap[g]? = some (.cells cur t (0,0))) (i:Nat):w.cell? ⟨g,i,none⟩=cur[i]?:=by
 simp [World.cell?,h]
theorem cells_frozen {w:World} {g:Nat} {cur:Array Value} {t:TypeId} (h:w.heap[g]? = some (.cells cur t (0,0))) (i:Nat):w.frozen? ⟨g,i,none⟩=false:=by
 simp [World.frozen?,h]
theorem DelAt.skip {S:SchT} {xs:List ByteArray} {g i j cap:Nat} {w:World} {x:ByteArray} (h:DelAt S xs g i j cap w) (hx:xs[j]? = some x) (ho:objB S x=false):DelAt S xs g i (j+1) cap w:=by
 obtain ⟨cur,h1,h2,h3,h4,h5⟩:=h
 have e:objL S (xs.take (j+1))=objL S (xs.take j):=by rw [objL_take hx,ho];simp
 exact ⟨cur,h1,h2,by rw [e];exact h3,by rw [e];exact h4,fun t y ht hy=>h5 t y (by omega) hy⟩
theorem DelAt.put {S:SchT} {xs:List ByteArray} {g i j cap:Nat} {w:World} {x:ByteArray} (h:DelAt S xs g i j cap w) (hx:xs[j]? = some x) (ho:objB S x=true) (hic:i < cap) (hij:i≤j):DelAt S xs g (i+1) (j+1) cap (w.setCell ⟨g,i,none⟩ (.string x)):=by
 obtain ⟨cur,h1,h2,h3,h4,h5⟩:=h
 have e:objL S (xs.take (j+1))=objL S (xs.take j)++[x]:=by rw [objL_take hx,ho];simp
 refine ⟨cur.setIfInBounds i (.string x),?_,by simp [h2],by rw [e,List.length_append,h3];rfl,fun t y hy=>?_,fun t y ht hy=>?_⟩
 · simp only [World.setCell,Array.getElem?_modify,h1]
   simp
 · rw [e] at hy
   by_cases ht:t < i
   · rw [List.getElem?_append_left (by omega)] at hy
     rw [Array.getElem?_setIfInBounds_ne (by omega)]
     exact h4 t y hy
   · rw [List.getElem?_append_right (by omega)] at hy
     have:t=i:=by
      have:=(List.getElem?_eq_some_iff.1 hy).1
      simp at this
      omega
     subst this
     rw [h3,Nat.sub_self] at hy
     have:x=y:=by simpa using hy
     subst this
     simp [h2,hic]
 · rw [Array.getElem?_setIfInBounds_ne (by omega)]
   exact h5 t y (by omega) hy
def RowR (base:Nat) (xs:List ByteArray) (w:World) (e:Ending) (w':World):Prop:=∃ A c,e=.returned (.slice A xs.length c)∧Blk.StrsAt w' w'.heap.size A xs.length xs∧Below base w w'
theorem DelAt.start {S:SchT} {base:Nat} {w w1:World} {A:Option Addr} {c:Nat} {xs:List ByteArray} {j:Nat} {x:ByteArray} (h:SR base w (.slice A xs.length c) xs) (hb:Below w.heap.size w w1) (hx:xs[j]? = some x) (ho:objB S x=false) (hall:∀ y,y ∈ xs.take j→objB S y=true) :
   ∃ g,A=some ⟨g,0,none⟩∧base≤g∧xs.length≤c∧DelAt S xs g j (j+1) c w1:=by
 have hj:j < xs.length:=(List.getElem?_eq_some_iff.1 hx).1
 rcases h.2 with ⟨_,h0⟩|⟨g,cap,cur,e,hbg,hg,hnc,hm,hcs,htk⟩
 · omega
 · injection e with e1 e2 e3
   subst e1 e3
   have hlt:g < w.heap.size:=(Array.getElem?_eq_some_iff.1 hg).1
   have e:objL S (xs.take (j+1))=xs.take j:=by rw [objL_take hx,ho,objL_all hall];simp
   have hcell:∀ (t:Nat) y,xs[t]? = some y→cur[t]? = some (.string y):=fun t y hy=>by
     have ht:t < xs.length:=(List.getElem?_eq_some_iff.1 hy).1
     have h1:(cur.toList.take (xs.length*1))[t]? = (xs.map Value.string)[t]?:=by rw [htk]
     rw [List.getElem?_take,if_pos (by omega),List.getElem?_map,hy] at h1
     simpa using h1
   refine ⟨g,rfl,hbg,hnc,cur,(hb.block _ hlt).trans hg,by rw [hcs,Nat.mul_one],by rw [e,List.length_take];omega,fun t y hy=>?_,fun t y _ hy=>hcell t y hy⟩
   rw [e] at hy
   have hy2:=hy
   rw [List.getElem?_take] at hy
   split at hy
   · exact hcell t y hy
   · cases hy
theorem RowS.row {xs:List ByteArray} {w:World} {e:Ending} {w':World} (h:RowS xs w e w'):RowR w.heap.size xs w e w':=by
 obtain ⟨V,rfl,h1,h2⟩:=h
 obtain ⟨A,c,rfl,h3⟩:=h1.strs
 exact ⟨A,c,rfl,h3,h2⟩
theorem delete_any (S:SchT) (V:Value) (xs:List ByteArray) (w:World) (B base sb:Nat) (hB:B≤base) (hbs:base≤w.heap.size) (hsb:sb < base) (hn:xs.length≤9223372036854775807) (hs:StrB xs) (hV:SR base w V xs) (hC:CapS S B sb w) :
   Calls Tryz.prog 81 #[V,.func (.func 82) #[] #[.pointer (some ⟨sb,0,none⟩)]] w (RowR base (objL S xs) w):=by
 obtain ⟨A,c,rfl,hA⟩:=hV.strs
 have F:=fun (x:ByteArray) (hx:x ∈ xs) (wx:World) (hb:Below base w wx)=>Hd (pos1_any S x wx B sb (Nat.le_trans hB (Nat.le_trans hbs hb.size)) (hs x hx) (hC.low hb hB hsb))
 have I0:=Hd (indexf_any S A xs.length c xs w B sb (Nat.le_trans hB hbs) hn hs hA hC)
 have HV:=Hd hV
 have HA:=Hd hA
 have HBS:=Hd hbs
 clear hV hA hC hs hbs
 go_enter Tryz.func81,Tryz.ntmps81
 go_wp2_with fail
 refine I0.out.mono ?_
 rintro e w1 ⟨k,rfl,hk,hb1⟩
 have B1:=Hd hb1
 rcases hk with ⟨rfl,hall⟩|⟨j0,rfl,⟨x0,hx0,ho0⟩,hall⟩
 · have HALL:=Hd (objL_all hall)
   clear hall hb1 F
   go_wp2_with fail
   go_ret
   refine ⟨A,c,by rw [HALL.out];rfl,?_,B1.out.mono HBS.out⟩
   rw [HALL.out]
   exact (HA.out.below B1.out).more B1.out.size
 · obtain ⟨g0,rfl,hbg,hlc,hD⟩:=DelAt.start HV.out hb1 hx0 ho0 hall
   have hj0:j0 < xs.length:=(List.getElem?_eq_some_iff.1 hx0).1
   have HD:=Hd hD
   have e1:((j0:Int) == -1)=false:=by rw [beq_eq_false_iff_ne];omega
   have HBG:=Hd hbg
   clear hall hb1 hx0 ho0 hD hbg I0 HA HV
   go_wp2_with fail
   go_loopg [5,6] (xs.length - (j0+1)) (fun gk i j wx=>∃ p q:Nat,q+gk=xs.length∧p < q∧i=.int .i64 p∧j=.int .i64 q∧Aside (DelAt S xs g0 p q c wx∧Below base w wx))
   case atStart=>exact ⟨j0,j0+1,by omega,by omega,rfl,by go_num,Blk.Aside.intro ⟨HD.out,B1.out.mono HBS.out⟩⟩
   case round =>
    obtain ⟨p,q,hq,hpq,rfl,rfl,HX⟩:=hrel
    obtain ⟨hD,hb⟩:=HX.out
    have HDX:=Hd hD
    have HBB:=Hd hb
    clear HX hb hD HD
    cases gk with
    | zero =>
      obtain rfl:q=xs.length:=by omega
      obtain ⟨cur,h1,h2,h3,h4,h5⟩:=HDX.out
      rw [List.take_length] at h3 h4
      have hcl:∀ ty,(Builtin.clear_ #[32] ty #[.slice (some ⟨g0,p,none⟩) (xs.length - p) (c - p)]).run Tryz.prog wr=.ok (.tuple #[]) (wr.setCells g0 p (List.replicate (xs.length - p) (.string ⟨#[]⟩))):=
        fun ty=>Lib.run_clear_slice wr 32 9 ty (.string ⟨#[]⟩) Tryz.underlying32 (fun _=>rfl) rfl rfl g0 p (xs.length - p) (c - p) (by omega) (fun t ht=>by rw [cells_get h1];simp;omega) (fun t _=>cells_frozen h1 _)
      have HE:=Hd (And.intro h1 (And.intro h3 h4))
      have hpc:p≤c:=by omega
      have hpn:p≤xs.length:=by omega
      have hpc' : ¬ c=p:=by omega
      have hpc2 : ¬ c - p=0:=by omega
      clear h1 h2 h3 h4 h5 F
      go_wp2_with fail
      go_ret
      obtain ⟨h1,h3,h4⟩:=HE.out
      have hlt:g0 < wr.heap.size:=HDX.out.lt
      have BS:=low_setCells (B:=base) g0 HBG.out (List.replicate (xs.length - p) (.string ⟨#[]⟩)) p HBB.out
      have BS2:=(low_setCells (B:=g0) g0 (Nat.le_refl _) (List.replicate (xs.length - p) (.string ⟨#[]⟩)) p (Below.refl g0 wr)).size
      refine ⟨some ⟨g0,0,none⟩,c,by rw [h3];rfl,⟨rfl,fun t y hy=>⟨g0,0,rfl,Nat.lt_of_lt_of_le hlt BS2,?_⟩⟩,BS⟩
      have ht:t < p:=by have:=(List.getElem?_eq_some_iff.1 hy).1;omega
      rw [World.cell?_setCells_out g0 _ p wr _ (fun _ _=>.inl (by show 0+t < p;omega)),Nat.zero_add]
      exact (cells_get h1 t).trans (h4 t y hy)
    | succ g =>
      have hqn:q < xs.length:=by omega
      have hqn':(q:Int) < (xs.length:Int):=by omega
      obtain ⟨x,hx⟩:∃ x,xs[q]? = some x:=⟨_,List.getElem?_eq_getElem hqn⟩
      have hF:=F x (List.mem_of_getElem? hx) wr HBB.out
      obtain ⟨cur,h1,h2,h3,h4,h5⟩:=HDX.out
      have c1:wr.cell? ⟨g0,q,none⟩=some (.string x):=(cells_get h1 q).trans (h5 q x (Nat.le_refl _) hx)
      have HX:=Hd hx
      clear h1 h2 h3 h4 h5 hx F
      cases ho:objB S x with
      | true =>
        rw [ho] at hF
        have HO:=Hd ho
        clear ho
        go_wp2_with fail
        refine hF.out.mono ?_
        rintro e w2 ⟨rfl,hb2⟩
        have B2:=Hd hb2
        have D2:=Hd (HDX.out.low hb2 HDX.out.lt)
        obtain ⟨cur,h1,h2,h3,h4,h5⟩:=D2.out
        have f1:w2.cell? ⟨g0,p,none⟩=some cur[p]!:=by rw [cells_get h1,getElem!_pos cur p (by omega),Array.getElem?_eq_getElem (by omega)]
        have f2:=cells_frozen h1 p
        clear hb2 hF c1 h1 h3 h4 h5 h2
        go_wp2_with fail
        go_roundg g
        case measure=>omega
        case rel=>exact ⟨p+1,q+1,by omega,by omega,by go_num,by go_num,Blk.Aside.intro ⟨D2.out.put HX.out HO.out (by omega) (by omega),(HBB.out.trans (B2.out.mono (Nat.le_trans HBS.out HBB.out.size))).setCell HBG.out _⟩⟩
      | false =>
        rw [ho] at hF
        have HO:=Hd ho
        clear ho
        go_wp2_with fail
        refine hF.out.mono ?_
        rintro e w2 ⟨rfl,hb2⟩
        have B2:=Hd hb2
        have D2:=Hd (HDX.out.low hb2 HDX.out.lt)
        clear hb2 hF c1
        go_wp2_with fail
        go_roundg g
        case measure=>omega
        case rel=>exact ⟨p,q+1,by omega,by omega,rfl,by go_num,Blk.Aside.intro ⟨D2.out.skip HX.out HO.out,HBB.out.trans (B2.out.mono (Nat.le_trans HBS.out HBB.out.size))⟩⟩
def SlimF (f:FieldT):Prop:=f.params.length*136≤140737488355328∧f.dirs.length*40≤140737488355328∧∀ x,x ∈ f.dirs→x.2.len*96≤140737488355328
def SlimD (d:DefnT):Prop:=d.faces.length*16≤140737488355328∧d.fields.length*96≤140737488355328∧d.parts.length*16≤140737488355328∧d.params.length*136≤140737488355328∧∀ f,f ∈ d.fields→SlimF f
def SlimS (S:SchT):Prop:=S.defs.length*120≤140737488355328∧∀ d,d ∈ S.defs→SlimD d
theorem slim_none (k:Int) (n:ByteArray):SlimD ⟨k,n,[],[],[],[]⟩:=⟨by simp,by simp,by simp,by simp,fun f h=>by simp at h⟩
theorem findL_mem {l:List DefnT} {n:ByteArray} : (findL l n).1 ∈ l∨(findL l n).1=zeroD:=by
 induction l with
 | nil=>exact .inr rfl
 | cons d t ih =>
   rw [findL]
   split
   · exact .inl (List.mem_cons_self ..)
   · rcases ih with h|h
     · exact .inl (List.mem_cons_of_mem _ h)
     · exact .inr h
theorem find_slim {l:List DefnT} (h:∀ d,d ∈ l→SlimD d) (n:ByteArray):SlimD (findD l n).1:=by
 unfold findD
 split
 · exact slim_none _ _
 · rcases findL_mem (l:=l) (n:=n) with e|e
   · exact h _ e
   · rw [e];exact slim_none _ _
theorem defs_bd {w:World} {P:Nat→Prop} : ∀ {l:List DefnT} {A:Option Addr},RowT w P (rowOf encDefn l) A→∀ d,d ∈ l→d.name.size≤9223372036854775807∧StrB d.faces∧StrB d.parts
 | [],_,_=>fun d h=>by simp at h
 | a :: t,A,h=>fun d hd=>by
   rw [rowOf] at h
   unfold RowT at h
   obtain ⟨b,o,cs,_,_,_,h1,h2⟩:=h
   rcases List.mem_cons.1 hd with rfl|hd
   · obtain ⟨Af,kf,Ax,kx,Ap,kp,Am,km,_,hz,⟨_,hf⟩,_,⟨_,hp⟩,_⟩:=defn_cells h1
     exact ⟨hz,str_bd hf,str_bd hp⟩
   · exact defs_bd h2 d hd
theorem bearers_bd {l:List DefnT} {f:ByteArray} (h:∀ d,d ∈ l→d.name.size≤9223372036854775807):StrB (bearersL l f):=by
 induction l with
 | nil=>intro s hs;simp [bearersL] at hs
 | cons a t ih =>
   have ih:=ih (fun d hd=>h d (List.mem_cons_of_mem _ hd))
   intro s hs
   rw [bearersL] at hs
   split at hs
   · rcases List.mem_cons.1 hs with rfl|hs
     · exact h a (List.mem_cons_self ..)
     · exact ih s hs
   · exact ih s hs
theorem adds_mem:∀ (l out:List ByteArray) (s:ByteArray),s ∈ l.foldl addN out→s ∈ out∨s ∈ l
 | [],out,s,h=>.inl h
 | a :: t,out,s,h=>by
   rw [List.foldl_cons] at h
   rcases adds_mem t _ s h with h1|h1
   · unfold addN at h1
     split at h1
     · exact .inl h1
     · rcases List.mem_append.1 h1 with h2|h2
       · exact .inl h2
       · simp at h2;subst h2;exact .inr (List.mem_cons_self ..)
   · exact .inr (List.mem_cons_of_mem _ h1)
theorem once_mem {xs:List ByteArray} {s:ByteArray} (h:s ∈ onceL xs):s ∈ xs:=by
 rcases adds_mem xs [] s h with h|h
 · simp at h
 · exact h
theorem once_bd {xs:List ByteArray} (h:StrB xs):StrB (onceL xs):=fun s hs=>h s (once_mem hs)
def possL (S:SchT) (n:ByteArray):List ByteArray:=
 if (findD S.defs n).2=true then
  (if ((findD S.defs n).1.kind == 1)=true then [n] else if ((findD S.defs n).1.kind == 2)=true then onceL (bearersL S.defs n) else if ((findD S.defs n).1.kind == 3)=true then objL S (onceL (findD S.defs n).1.parts) else [])
 else []
theorem strs_lit {w:World} {n:ByteArray} {t:TypeId} : Blk.StrsAt (w.alloc (.cells #[.string n] t)) (w.heap.size+1) (some ⟨w.heap.size,0,none⟩) 1 [n]:=by
 refine ⟨rfl,fun j x hx=>⟨_,_,rfl,Nat.lt_succ_self _,?_⟩⟩
 have h0:j=0:=by have:=(List.getElem?_eq_some_iff.1 hx).1;simp at this;exact this
 subst h0
 have:n=x:=by simpa using hx
 subst this
 rw [Nat.add_zero,World.cell?_alloc_at _ _ _ _ rfl]
 rfl
theorem strs_lit2 {w:World} {n:ByteArray} {t:TypeId} {g:Nat} (hg:w.heap.size=g):Blk.StrsAt (w.alloc (.cells #[.string n] t)) (w.alloc (.cells #[.string n] t)).heap.size (some ⟨g,0,none⟩) 1 [n]:=by subst hg;exact strs_lit.more (by simp)
theorem poss_any (S:SchT) (n:ByteArray) (c0 c1 c2:Value) (w:World) (B:Nat) (hB:B≤w.heap.size) (hn:n.size≤9223372036854775807) (hz:SlimS S) (hS:TS w (fun b=>b < B) (encSch S) [c0,c1,c2]) :
   Calls Tryz.prog 40 #[.agg #[c0,c1,c2],.string n] w (RowR w.heap.size (possL S n) w):=by
 have F:=Hd (fun (wx:World) (hb:Below w.heap.size w wx)=>find_any S n c0 c1 c2 wx B (Nat.le_trans hB hb.size) hn (TS.low (hb.mono hB) hS))
 have G:=Hd (fun (wx:World) (hb:Below w.heap.size w wx)=>bearers_any S n c0 c1 c2 wx B (Nat.le_trans hB hb.size) (by have:=hz.1;omega) (TS.low (hb.mono hB) hS))
 have FS:=Hd (find_slim hz.2 n)
 have HS0:=Hd hS
 obtain ⟨A,k,e,hl,hR⟩:=sch_cells hS
 injection e with e0 e
 injection e with e1 e
 injection e with e2 e
 subst e0 e1 e2
 have HB0:=Hd hB
 have HZ:=Hd hz
 have HDB:=Hd (defs_bd hR)
 have B0:=Hd (dbelow_new w (.cells #[.slice A S.defs.length k,.string S.query,.string S.mutation] 24))
 have X0:=Hd (heap_alloc_new w (.cells #[.slice A S.defs.length k,.string S.query,.string S.mutation] 24))
 have hmf:∀ (fn:Fn) (first cap:Array Value) (w:World),(Instr.makeFunc fn first cap).run Tryz.prog w=.ok (.func fn first cap) w:=fun _ _ _ _=>rfl
 clear hB hS hR e hl hz
 obtain ⟨x,hx⟩:∃ x,findD S.defs n=x:=⟨_,rfl⟩
 have HQ:Hid (possL S n=if x.2=true then
   (if (x.1.kind == 1)=true then [n] else if (x.1.kind == 2)=true then onceL (bearersL S.defs n) else if (x.1.kind == 3)=true then objL S (onceL x.1.parts) else [])
 else []):=Hd (by unfold possL;rw [hx])
 generalize possL S n=Q at HQ ⊢
 rw [hx] at F FS
 clear hx
 obtain ⟨d,ok⟩:=x
 go_enter Tryz.func40,Tryz.ntmps40
 go_wp2_with fail
 refine (F.out _ B0.out).mono ?_
 rintro e w1 ⟨d0,d1,d2,d3,d4,d5,rfl,hT,hb1⟩
 have HT:=Hd hT
 obtain ⟨Af,kf,Ax,kx,Ap,kp,Am,km,e,_,_,_,⟨hlp,hrp⟩,_⟩:=defn_cells hT
 simp only [List.cons.injEq,and_true] at e
 obtain ⟨rfl,rfl,rfl,rfl,rfl,rfl⟩:=e
 have B1:=Hd (B0.out.trans (hb1.mono B0.out.size))
 have HP:=Hd hrp
 have HX1:=Hd ((hb1.block w.heap.size (by simp)).trans X0.out)
 have hlw:=Nat.lt_of_lt_of_le (show w.heap.size < (w.alloc (.cells #[.slice A S.defs.length k,.string S.query,.string S.mutation] 24)).heap.size by simp) hb1.size
 clear hT hb1 F hrp
 cases ok with
 | false =>
   go_wp2_with fail
   go_ret
   have hQ:Q=[]:=HQ.out
   subst hQ
   exact ⟨none,0,rfl,⟨rfl,fun j x hx=>by simp at hx⟩,B1.out.alloc B1.out.size _⟩
 | true =>
   have B2:=Hd (fun o=>B1.out.alloc B1.out.size o)
   have D2:=fun o=>Hd (dbelow_new w1 o)
   have hs1:=B1.out.size
   cases k1:(d.kind == 1) with
   | true =>
     have hQ:Q=[n]:=HQ.out.trans (by simp [k1])
     subst hQ
     go_wp2_with fail
     go_ret
     exact ⟨_,1,rfl,strs_lit2 (by simp),(B2.out _).alloc (B2.out _).size _⟩
   | false =>
     cases k2:(d.kind == 2) with
     | true =>
       have hQ:Q=onceL (bearersL S.defs n):=HQ.out.trans (by simp [k1,k2])
       have HBD:=Hd (once_bd (bearers_bd (f:=n) (fun d hd=>(HDB.out d hd).1)))
       have HLE:=Hd (show (bearersL S.defs n).length*16≤140737488355328 by have:=bearers_len S.defs n;have:=HZ.out.1;omega)
       have HQ2:=Hd hQ
       clear hQ
       obtain ⟨z0,z1,z2⟩:=three_cells HX1.out
       go_wp2_with fail
       refine (G.out _ (B2.out _)).mono ?_
       rintro e w2 ⟨V,rfl,h2,hb2⟩
       obtain ⟨A2,k2',rfl,hs2⟩:=h2.strs
       have O2:=Hd hs2
       have B3:=Hd ((B2.out _).trans (hb2.mono (B2.out _).size))
       clear h2 hb2 hs2
       go_wp2_with fail
       refine (once_any A2 (bearersL S.defs n).length k2' (bearersL S.defs n) w2 HLE.out (bearers_bd (fun d hd=>(HDB.out d hd).1)) O2.out).mono ?_
       rintro e w3 h3
       obtain ⟨A3,k3,rfl,hs3,hb3⟩:=h3.row
       have O3:=Hd hs3
       have B4:=Hd (B3.out.trans (hb3.mono B3.out.size))
       clear h3 hs3 hb3
       go_wp2_with fail
       go_ret
       have hQ:=HQ2.out
       subst hQ
       exact ⟨A3,k3,rfl,O3.out,B4.out⟩
     | false =>
       cases k3:(d.kind == 3) with
       | false =>
         have hQ:Q=[]:=HQ.out.trans (by simp [k1,k2,k3])
         subst hQ
         go_wp2_with fail
         go_ret
         exact ⟨none,0,rfl,⟨rfl,fun j x hx=>by simp at hx⟩,B2.out _⟩
       | true =>
         have hQ:Q=objL S (onceL d.parts):=HQ.out.trans (by simp [k1,k2,k3])
         have HQ2:=Hd hQ
         clear hQ
         go_wp2_with fail
         refine (once_any Ap d.parts.length kp d.parts _ FS.out.2.2.1 (str_bd HP.out) (((str_row HP.out).below ((D2 _).out.mono (Nat.le_trans HB0.out hs1))).more (Nat.le_trans HB0.out (Nat.le_trans hs1 (D2 _).out.size)))).mono ?_
         rintro e w3 ⟨V,rfl,h3,hb3⟩
         have O3:=Hd h3
         have B3:=Hd ((B2.out _).trans (hb3.mono (B2.out _).size))
         have C3:=Hd (show CapS S B w.heap.size w3 from ⟨_,_,_,((hb3.mono (D2 _).out.size).block _ hlw).trans (((D2 _).out.block _ hlw).trans HX1.out),TS.low (B3.out.mono HB0.out) HS0.out⟩)
         have hb3s:=hb3.size
         clear h3 hb3
         go_wp2_with fail
         refine (delete_any S V (onceL d.parts) w3 B (w1.heap.size+1) w.heap.size (by have:=HB0.out;omega) (by simp at hb3s;omega) (by omega) (by have:=once_len d.parts;omega) (once_bd (str_bd HP.out)) (O3.out.mono (by simp)) C3.out).mono ?_
         rintro e w4 ⟨A4,k4,rfl,hs4,hb4⟩
         have O4:=Hd hs4
         have B4:=Hd (B3.out.trans (hb4.mono (by omega)))
         clear hs4 hb4
         go_wp2_with fail
         go_ret
         have hQ:=HQ2.out
         subst hQ
         exact ⟨A4,k4,rfl,O4.out,B4.out⟩
def oneS:TrS→Bool
 | .nil=>true
 | .cons (.one v) t=>v.oneCell' && oneS t
 | .cons (.row _) t=>oneS t
theorem one_ts {w:World} {P:Nat→Prop} : ∀ {s:TrS} {cs:List Value},oneS s=true→TS w P s cs→∀ u,u ∈ cs→u.oneCell'=true
 | .nil,cs,_,h=>fun u hu=>by unfold TS at h;subst h;simp at hu
 | .cons (.one v) t,cs,h1,h=>fun u hu=>by
   unfold TS at h
   obtain ⟨c,ys,rfl,ha,hb⟩:=h
   rw [oneS,Bool.and_eq_true] at h1
   unfold TP at ha
   rcases List.mem_cons.1 hu with rfl|hu
   · rw [ha.1];exact h1.1
   · exact one_ts h1.2 hb u hu
 | .cons (.row r) t,cs,h1,h=>fun u hu=>by
   unfold TS at h
   obtain ⟨c,ys,rfl,ha,hb⟩:=h
   rw [oneS] at h1
   unfold TP at ha
   obtain ⟨A,k,e,_⟩:=ha
   rcases List.mem_cons.1 hu with rfl|hu
   · rw [e];rfl
   · exact one_ts h1 hb u hu
theorem row_news {w:World} {P:Nat→Prop} {b:Nat} : ∀ {l:TrL} {o:Nat},RowT w P l (some ⟨b,o,none⟩)→∃ xs,TLV w P l xs∧∀ j u,xs[j]? = some u→w.cell? ⟨b,o+j,none⟩=some u
 | .nil,o,_=>⟨[],rfl,fun j u h=>by simp at h⟩
 | .cons s t,o,h=>by
   unfold RowT at h
   obtain ⟨b',o',cs,e,_,hc,h1,h2⟩:=h
   have e:=Option.some.inj e
   injection e with e1 e2 _
   subst e1 e2
   obtain ⟨xs,h3,h4⟩:=row_news h2
   refine ⟨cs++xs,⟨cs,xs,rfl,h1,h3⟩,fun j u hj=>?_⟩
   by_cases hlt:j < cs.length
   · rw [List.getElem?_append_left hlt] at hj
     exact hc j u hj
   · rw [List.getElem?_append_right (by omega)] at hj
     have:=h4 (j - cs.length) u hj
     rwa [← h1.len,show o+cs.length+(j - cs.length)=o+j by omega] at this
theorem tlv_len {w:World} {P:Nat→Prop} {k:Nat} {α:Type} {f:α→TrS} (hk:∀ a,(f a).len=k):∀ {l:List α} {xs:List Value},TLV w P (rowOf f l) xs→xs.length=l.length*k
 | [],xs,h=>by
   have:xs=[]:=h
   subst this;simp
 | a :: t,xs,h=>by
   obtain ⟨cs,ys,rfl,h1,h2⟩:=h
   rw [List.length_append,h1.len,hk,tlv_len hk h2,List.length_cons,Nat.succ_mul,Nat.add_comm]
theorem tlv_one {w:World} {P:Nat→Prop} {α:Type} {f:α→TrS} (hk:∀ a,oneS (f a)=true):∀ {l:List α} {xs:List Value},TLV w P (rowOf f l) xs→∀ u,u ∈ xs→u.oneCell'=true
 | [],xs,h=>fun u hu=>by
   have:xs=[]:=h
   subst this;simp at hu
 | a :: t,xs,h=>fun u hu=>by
   obtain ⟨cs,ys,rfl,h1,h2⟩:=h
   rcases List.mem_append.1 hu with hu|hu
   · exact one_ts (hk a) h1 u hu
   · exact tlv_one hk h2 u hu
theorem row_some {w:World} {P:Nat→Prop} {α:Type} {f:α→TrS} {a:α} {t:List α} {A:Option Addr} (h:RowT w P (rowOf f (a :: t)) A):∃ b o,A=some ⟨b,o,none⟩:=by
 rw [rowOf] at h
 unfold RowT at h
 obtain ⟨b,o,cs,e,_⟩:=h
 exact ⟨b,o,e⟩
def Cloned (ty:TypeId) (k:Nat) (l:TrL) (n:Nat) (P:Nat→Prop) (w:World) (e:Ending) (w':World):Prop:=
 ∃ V xs,e=.returned V∧w'.ownsRow w.heap.size ty k V n xs∧TLV w' P l xs∧Below w.heap.size w w'
theorem info_of {t:TypeId} {k b:Nat} (h:((Tryz.prog.info? t).map fun i=>(i.zero.map (·.cells.size),i.size,i.bytes))=some (some k,k,b)):∃ i z,Tryz.prog.info? t=some i∧i.zero=some z∧i.size=k∧i.bytes=b∧z.cells.size=k:=by
 cases hi:Tryz.prog.info? t with
 | none=>rw [hi] at h;cases h
 | some i =>
   rw [hi] at h
   cases hz:i.zero with
   | none=>simp [hz] at h
   | some z =>
     simp [hz] at h
     exact ⟨i,z,rfl,hz,h.2.1,h.2.2,h.1⟩
theorem run_append_empty {P:Program} {w:World} (t ty e:TypeId) (i:TypeInfo) (ht:P.underlying t=some (.slice e)) (hi:P.info? e=some i) (g cap c:Nat) (x:Option Addr) :
  (Builtin.append_ #[t,t] ty #[.slice (some ⟨g,0,none⟩) 0 cap,.slice x 0 c]).run P w=.ok (.slice (some ⟨g,0,none⟩) 0 cap) w:=by
 cases x<;>simp [Builtin.append_,run_underlying ht,sizeOf,typeInfo,hi,Builtin.lenOf,Builtin.firstCells,storeCells,loadCells,loadCellsFrom]
theorem row_lt {w:World} {P:Nat→Prop} {b o:Nat} {s:TrS} {t:TrL} (h:RowT w P (.cons s t) (some ⟨b,o,none⟩)):P b:=by
 unfold RowT at h
 obtain ⟨b',o',cs,e,hb,_⟩:=h
 have e:=Option.some.inj e
 injection e with e1 _ _
 subst e1
 exact hb
theorem tlvM_len {w:World} {P:Nat→Prop} : ∀ {l:VM} {xs:List Value},TLV w P (encM l) xs→xs.length=l.len*6
 | .nil,xs,h=>by
   rw [encM] at h
   have:xs=[]:=h
   subst this;rfl
 | .cons nm v t,xs,h=>by
   rw [encM] at h
   obtain ⟨cs,ys,rfl,h1,h2⟩:=h
   rw [List.length_append,h1.len,TrS.len,encV_len,tlvM_len h2,VM.len,Nat.succ_mul,Nat.add_comm]
theorem oneV (v:VT):oneS (encV v)=true:=by cases v;simp [oneS,encV,Value.oneCell']
theorem tlvM_one {w:World} {P:Nat→Prop} : ∀ {l:VM} {xs:List Value},TLV w P (encM l) xs→∀ u,u ∈ xs→u.oneCell'=true
 | .nil,xs,h=>fun u hu=>by
   rw [encM] at h
   have:xs=[]:=h
   subst this;simp at hu
 | .cons nm v t,xs,h=>fun u hu=>by
   rw [encM] at h
   obtain ⟨cs,ys,rfl,h1,h2⟩:=h
   rcases List.mem_append.1 hu with hu|hu
   · exact one_ts (by rw [oneS,oneV];rfl) h1 u hu
   · exact tlvM_one h2 u hu
theorem own_lit0 (w:World) (ty:TypeId) (k:Nat):(w.alloc (.cells #[] ty)).ownsRow w.heap.size ty k (.slice (some ⟨w.heap.size,0,none⟩) 0 0) 0 []:=
 World.ownsRow_lit w #[] 0 (Nat.le_refl _) (by decide) (by simp)
theorem cinfo_str:∃ i z,Tryz.prog.info? 9=some i∧i.zero=some z∧i.size=1∧i.bytes=16∧z.cells.size=1:=info_of (by kernel_rfl)
theorem len_str (x:ByteArray):(encStr x).len=1:=by unfold encStr;simp only [TrS.len]
theorem one_str (x:ByteArray):oneS (encStr x)=true:=by unfold encStr;simp [oneS,Value.oneCell']
theorem clone_str (l:List ByteArray) (A:Option Addr) (c:Nat) (w:World) (P:Nat→Prop) (hP:∀ b,P b→b < w.heap.size) (hz:l.length*16≤140737488355328) (hR:RowT w P (rowOf encStr l) A) :
   Calls Tryz.prog 76 #[.slice A l.length c] w (Cloned 9 1 (rowOf encStr l) l.length P w):=by
 obtain ⟨i0,z,hi,hz0,hz1,hz2,hz3⟩:=cinfo_str
 have hnil:=Lib.run_eql_slice_nil (P:=Tryz.prog)
 cases l with
 | nil =>
   clear hR hz
   cases A with
   | none =>
     have hq:=fun W=>hnil W 32 9 none 0 c 0 0 Tryz.underlying32
     clear hnil
     go_enter Tryz.func76,Tryz.ntmps76
     go_wp2_with fail
     go_ret
     exact ⟨_,[],rfl,World.ownsRow_nil _ _ _ _,rfl,Below.refl _ _⟩
   | some a =>
     have hq:=fun W=>hnil W 32 9 (some a) 0 c 0 0 Tryz.underlying32
     have hap:=fun W ty g=>@run_append_empty Tryz.prog W 32 ty 9 i0 Tryz.underlying32 hi g 0 c (some a)
     clear hnil
     go_enter Tryz.func76,Tryz.ntmps76
     go_wp2_with fail
     go_ret
     exact ⟨_,[],rfl,own_lit0 _ _ _,rfl,dbelow_new _ _⟩
 | cons a t =>
   obtain ⟨b,o,rfl⟩:∃ b o,A=some ⟨b,o,none⟩:=row_some hR
   obtain ⟨xs,hx,hc⟩:=row_news (by exact hR)
   obtain ⟨L,hL⟩:∃ L,L=(a :: t).length:=⟨_,rfl⟩
   have hlen:xs.length=L*1:=by rw [hL];exact tlv_len len_str hx
   have hone:∀ u,u ∈ xs→u.oneCell'=true:=tlv_one one_str hx
   rw [← hL] at hz ⊢
   have hLp:0 < L:=by rw [hL];simp
   have HL:=Hd hL
   have HX:=Hd hx
   have HC:=Hd hc
   have hblt:P b:=row_lt (by rw [rowOf] at hR;exact hR)
   have hbw:=hP b hblt
   have HO:=Hd hone
   have HN:=Hd hlen
   have hq:=fun W=>hnil W 32 9 (some ⟨b,o,none⟩) L c 0 0 Tryz.underlying32
   have O0:=Hd (own_lit0 w 9 1)
   have B0:=Hd (dbelow_new w (.cells #[] 9))
   clear hnil hR hx hc hL hone hlen
   go_enter Tryz.func76,Tryz.ntmps76
   go_wp2_with (at_builtin;go_loud (refine wpList_append_lies _ rfl _ _ 32 rfl w.heap.size 9 i0 z 1 16 Tryz.underlying32 hi hz0 hz1 hz2 hz3 (by decide) _ 0 [] rfl O0.out _ L c xs rfl HN.out (fun j u hj=>by rw [add_at];exact (B0.out.cell (p:=⟨b,o+j,none⟩) hbw).trans (HC.out j u hj)) HO.out hLp (by unfold maxLen;omega) (by omega) (by simp) _ rfl ?_;intro gg cap2 w4 hown4 hgrow hat hlt4;have HG4:=Hd hgrow;have HO4:=Hd hown4;have HT4:=Hd hat;clear hgrow hown4 hat))
   go_ret
   have B4:=below_grown (B:=w.heap.size) B0.out HG4.out B0.out.size (fun k hk=>by have e:some w.heap.size=some k:=hk;injection e with e;omega)
   exact ⟨_,xs,rfl,by have h:=HO4.out;rw [Nat.zero_add] at h;exact h,TLV.keep (fun k hk=>⟨hk,B4.block k (hP k hk)⟩) HX.out,B4⟩
theorem cinfo_par:∃ i z,Tryz.prog.info? 60=some i∧i.zero=some z∧i.size=10∧i.bytes=136∧z.cells.size=10:=info_of (by kernel_rfl)
theorem len_par (x:VarT):(encVar x).len=10:=by unfold encVar;simp only [TrS.len,encV_len]
theorem one_par (x:VarT):oneS (encVar x)=true:=by unfold encVar;obtain ⟨_,_,_,_,_,v⟩:=x;cases v;simp [oneS,encV,Value.oneCell']
theorem clone_par (l:List VarT) (A:Option Addr) (c:Nat) (w:World) (P:Nat→Prop) (hP:∀ b,P b→b < w.heap.size) (hz:l.length*136≤140737488355328) (hR:RowT w P (rowOf encVar l) A) :
   Calls Tryz.prog 78 #[.slice A l.length c] w (Cloned 60 10 (rowOf encVar l) l.length P w):=by
 obtain ⟨i0,z,hi,hz0,hz1,hz2,hz3⟩:=cinfo_par
 have hnil:=Lib.run_eql_slice_nil (P:=Tryz.prog)
 cases l with
 | nil =>
   clear hR hz
   cases A with
   | none =>
     have hq:=fun W=>hnil W 35 60 none 0 c 0 0 Tryz.underlying35
     clear hnil
     go_enter Tryz.func78,Tryz.ntmps78
     go_wp2_with fail
     go_ret
     exact ⟨_,[],rfl,World.ownsRow_nil _ _ _ _,rfl,Below.refl _ _⟩
   | some a =>
     have hq:=fun W=>hnil W 35 60 (some a) 0 c 0 0 Tryz.underlying35
     have hap:=fun W ty g=>@run_append_empty Tryz.prog W 35 ty 60 i0 Tryz.underlying35 hi g 0 c (some a)
     clear hnil
     go_enter Tryz.func78,Tryz.ntmps78
     go_wp2_with fail
     go_ret
     exact ⟨_,[],rfl,own_lit0 _ _ _,rfl,dbelow_new _ _⟩
 | cons a t =>
   obtain ⟨b,o,rfl⟩:∃ b o,A=some ⟨b,o,none⟩:=row_some hR
   obtain ⟨xs,hx,hc⟩:=row_news (by exact hR)
   obtain ⟨L,hL⟩:∃ L,L=(a :: t).length:=⟨_,rfl⟩
   have hlen:xs.length=L*10:=by rw [hL];exact tlv_len len_par hx
   have hone:∀ u,u ∈ xs→u.oneCell'=true:=tlv_one one_par hx
   rw [← hL] at hz ⊢
   have hLp:0 < L:=by rw [hL];simp
   have HL:=Hd hL
   have HX:=Hd hx
   have HC:=Hd hc
   have hblt:P b:=row_lt (by rw [rowOf] at hR;exact hR)
   have hbw:=hP b hblt
   have HO:=Hd hone
   have HN:=Hd hlen
   have hq:=fun W=>hnil W 35 60 (some ⟨b,o,none⟩) L c 0 0 Tryz.underlying35
   have O0:=Hd (own_lit0 w 60 10)
   have B0:=Hd (dbelow_new w (.cells #[] 60))
   clear hnil hR hx hc hL hone hlen
   go_enter Tryz.func78,Tryz.ntmps78
   go_wp2_with (at_builtin;go_loud (refine wpList_append_lies _ rfl _ _ 35 rfl w.heap.size 60 i0 z 10 136 Tryz.underlying35 hi hz0 hz1 hz2 hz3 (by decide) _ 0 [] rfl O0.out _ L c xs rfl HN.out (fun j u hj=>by rw [add_at];exact (B0.out.cell (p:=⟨b,o+j,none⟩) hbw).trans (HC.out j u hj)) HO.out hLp (by unfold maxLen;omega) (by omega) (by simp) _ rfl ?_;intro gg cap2 w4 hown4 hgrow hat hlt4;have HG4:=Hd hgrow;have HO4:=Hd hown4;have HT4:=Hd hat;clear hgrow hown4 hat))
   go_ret
   have B4:=below_grown (B:=w.heap.size) B0.out HG4.out B0.out.size (fun k hk=>by have e:some w.heap.size=some k:=hk;injection e with e;omega)
   exact ⟨_,xs,rfl,by have h:=HO4.out;rw [Nat.zero_add] at h;exact h,TLV.keep (fun k hk=>⟨hk,B4.block k (hP k hk)⟩) HX.out,B4⟩
theorem cinfo_fld:∃ i z,Tryz.prog.info? 46=some i∧i.zero=some z∧i.size=6∧i.bytes=96∧z.cells.size=6:=info_of (by kernel_rfl)
theorem len_fld (x:FieldT):(encField x).len=6:=by unfold encField;simp only [TrS.len]
theorem one_fld (x:FieldT):oneS (encField x)=true:=by unfold encField;simp [oneS,Value.oneCell']
theorem clone_fld (l:List FieldT) (A:Option Addr) (c:Nat) (w:World) (P:Nat→Prop) (hP:∀ b,P b→b < w.heap.size) (hz:l.length*96≤140737488355328) (hR:RowT w P (rowOf encField l) A) :
   Calls Tryz.prog 136 #[.slice A l.length c] w (Cloned 46 6 (rowOf encField l) l.length P w):=by
 obtain ⟨i0,z,hi,hz0,hz1,hz2,hz3⟩:=cinfo_fld
 have hnil:=Lib.run_eql_slice_nil (P:=Tryz.prog)
 cases l with
 | nil =>
   clear hR hz
   cases A with
   | none =>
     have hq:=fun W=>hnil W 34 46 none 0 c 0 0 Tryz.underlying34
     clear hnil
     go_enter Tryz.func136,Tryz.ntmps136
     go_wp2_with fail
     go_ret
     exact ⟨_,[],rfl,World.ownsRow_nil _ _ _ _,rfl,Below.refl _ _⟩
   | some a =>
     have hq:=fun W=>hnil W 34 46 (some a) 0 c 0 0 Tryz.underlying34
     have hap:=fun W ty g=>@run_append_empty Tryz.prog W 34 ty 46 i0 Tryz.underlying34 hi g 0 c (some a)
     clear hnil
     go_enter Tryz.func136,Tryz.ntmps136
     go_wp2_with fail
     go_ret
     exact ⟨_,[],rfl,own_lit0 _ _ _,rfl,dbelow_new _ _⟩
 | cons a t =>
   obtain ⟨b,o,rfl⟩:∃ b o,A=some ⟨b,o,none⟩:=row_some hR
   obtain ⟨xs,hx,hc⟩:=row_news (by exact hR)
   obtain ⟨L,hL⟩:∃ L,L=(a :: t).length:=⟨_,rfl⟩
   have hlen:xs.length=L*6:=by rw [hL];exact tlv_len len_fld hx
   have hone:∀ u,u ∈ xs→u.oneCell'=true:=tlv_one one_fld hx
   rw [← hL] at hz ⊢
   have hLp:0 < L:=by rw [hL];simp
   have HL:=Hd hL
   have HX:=Hd hx
   have HC:=Hd hc
   have hblt:P b:=row_lt (by rw [rowOf] at hR;exact hR)
   have hbw:=hP b hblt
   have HO:=Hd hone
   have HN:=Hd hlen
   have hq:=fun W=>hnil W 34 46 (some ⟨b,o,none⟩) L c 0 0 Tryz.underlying34
   have O0:=Hd (own_lit0 w 46 6)
   have B0:=Hd (dbelow_new w (.cells #[] 46))
   clear hnil hR hx hc hL hone hlen
   go_enter Tryz.func136,Tryz.ntmps136
   go_wp2_with (at_builtin;go_loud (refine wpList_append_lies _ rfl _ _ 34 rfl w.heap.size 46 i0 z 6 96 Tryz.underlying34 hi hz0 hz1 hz2 hz3 (by decide) _ 0 [] rfl O0.out _ L c xs rfl HN.out (fun j u hj=>by rw [add_at];exact (B0.out.cell (p:=⟨b,o+j,none⟩) hbw).trans (HC.out j u hj)) HO.out hLp (by unfold maxLen;omega) (by omega) (by simp) _ rfl ?_;intro gg cap2 w4 hown4 hgrow hat hlt4;have HG4:=Hd hgrow;have HO4:=Hd hown4;have HT4:=Hd hat;clear hgrow hown4 hat))
   go_ret
   have B4:=below_grown (B:=w.heap.size) B0.out HG4.out B0.out.size (fun k hk=>by have e:some w.heap.size=some k:=hk;injection e with e;omega)
   exact ⟨_,xs,rfl,by have h:=HO4.out;rw [Nat.zero_add] at h;exact h,TLV.keep (fun k hk=>⟨hk,B4.block k (hP k hk)⟩) HX.out,B4⟩
theorem cinfo_dir:∃ i z,Tryz.prog.info? 83=some i∧i.zero=some z∧i.size=2∧i.bytes=40∧z.cells.size=2:=info_of (by kernel_rfl)
theorem len_dir (x:DirT):(encD x).len=2:=by unfold encD;simp only [TrS.len]
theorem one_dir (x:DirT):oneS (encD x)=true:=by unfold encD;simp [oneS,Value.oneCell']
theorem clone_dir (l:List DirT) (A:Option Addr) (c:Nat) (w:World) (P:Nat→Prop) (hP:∀ b,P b→b < w.heap.size) (hz:l.length*40≤140737488355328) (hR:RowT w P (rowOf encD l) A) :
   Calls Tryz.prog 139 #[.slice A l.length c] w (Cloned 83 2 (rowOf encD l) l.length P w):=by
 obtain ⟨i0,z,hi,hz0,hz1,hz2,hz3⟩:=cinfo_dir
 have hnil:=Lib.run_eql_slice_nil (P:=Tryz.prog)
 cases l with
 | nil =>
   clear hR hz
   cases A with
   | none =>
     have hq:=fun W=>hnil W 44 83 none 0 c 0 0 Tryz.underlying44
     clear hnil
     go_enter Tryz.func139,Tryz.ntmps139
     go_wp2_with fail
     go_ret
     exact ⟨_,[],rfl,World.ownsRow_nil _ _ _ _,rfl,Below.refl _ _⟩
   | some a =>
     have hq:=fun W=>hnil W 44 83 (some a) 0 c 0 0 Tryz.underlying44
     have hap:=fun W ty g=>@run_append_empty Tryz.prog W 44 ty 83 i0 Tryz.underlying44 hi g 0 c (some a)
     clear hnil
     go_enter Tryz.func139,Tryz.ntmps139
     go_wp2_with fail
     go_ret
     exact ⟨_,[],rfl,own_lit0 _ _ _,rfl,dbelow_new _ _⟩
 | cons a t =>
   obtain ⟨b,o,rfl⟩:∃ b o,A=some ⟨b,o,none⟩:=row_some hR
   obtain ⟨xs,hx,hc⟩:=row_news (by exact hR)
   obtain ⟨L,hL⟩:∃ L,L=(a :: t).length:=⟨_,rfl⟩
   have hlen:xs.length=L*2:=by rw [hL];exact tlv_len len_dir hx
   have hone:∀ u,u ∈ xs→u.oneCell'=true:=tlv_one one_dir hx
   rw [← hL] at hz ⊢
   have hLp:0 < L:=by rw [hL];simp
   have HL:=Hd hL
   have HX:=Hd hx
   have HC:=Hd hc
   have hblt:P b:=row_lt (by rw [rowOf] at hR;exact hR)
   have hbw:=hP b hblt
   have HO:=Hd hone
   have HN:=Hd hlen
   have hq:=fun W=>hnil W 44 83 (some ⟨b,o,none⟩) L c 0 0 Tryz.underlying44
   have O0:=Hd (own_lit0 w 83 2)
   have B0:=Hd (dbelow_new w (.cells #[] 83))
   clear hnil hR hx hc hL hone hlen
   go_enter Tryz.func139,Tryz.ntmps139
   go_wp2_with (at_builtin;go_loud (refine wpList_append_lies _ rfl _ _ 44 rfl w.heap.size 83 i0 z 2 40 Tryz.underlying44 hi hz0 hz1 hz2 hz3 (by decide) _ 0 [] rfl O0.out _ L c xs rfl HN.out (fun j u hj=>by rw [add_at];exact (B0.out.cell (p:=⟨b,o+j,none⟩) hbw).trans (HC.out j u hj)) HO.out hLp (by unfold maxLen;omega) (by omega) (by simp) _ rfl ?_;intro gg cap2 w4 hown4 hgrow hat hlt4;have HG4:=Hd hgrow;have HO4:=Hd hown4;have HT4:=Hd hat;clear hgrow hown4 hat))
   go_ret
   have B4:=below_grown (B:=w.heap.size) B0.out HG4.out B0.out.size (fun k hk=>by have e:some w.heap.size=some k:=hk;injection e with e;omega)
   exact ⟨_,xs,rfl,by have h:=HO4.out;rw [Nat.zero_add] at h;exact h,TLV.keep (fun k hk=>⟨hk,B4.block k (hP k hk)⟩) HX.out,B4⟩
theorem cinfo_mem:∃ i z,Tryz.prog.info? 97=some i∧i.zero=some z∧i.size=6∧i.bytes=96∧z.cells.size=6:=info_of (by kernel_rfl)
theorem clone_mem (l:VM) (A:Option Addr) (c:Nat) (w:World) (P:Nat→Prop) (hP:∀ b,P b→b < w.heap.size) (hz:l.len*96≤140737488355328) (hR:RowT w P (encM l) A) :
   Calls Tryz.prog 140 #[.slice A l.len c] w (Cloned 97 6 (encM l) l.len P w):=by
 obtain ⟨i0,z,hi,hz0,hz1,hz2,hz3⟩:=cinfo_mem
 have hnil:=Lib.run_eql_slice_nil (P:=Tryz.prog)
 cases l with
 | nil =>
   rw [show VM.nil.len=0 from rfl]
   clear hR hz
   cases A with
   | none =>
     have hq:=fun W=>hnil W 56 97 none 0 c 0 0 Tryz.underlying56
     clear hnil
     go_enter Tryz.func140,Tryz.ntmps140
     go_wp2_with fail
     go_ret
     exact ⟨_,[],rfl,World.ownsRow_nil _ _ _ _,by rw [encM];rfl,Below.refl _ _⟩
   | some a =>
     have hq:=fun W=>hnil W 56 97 (some a) 0 c 0 0 Tryz.underlying56
     have hap:=fun W ty g=>@run_append_empty Tryz.prog W 56 ty 97 i0 Tryz.underlying56 hi g 0 c (some a)
     clear hnil
     go_enter Tryz.func140,Tryz.ntmps140
     go_wp2_with fail
     go_ret
     exact ⟨_,[],rfl,own_lit0 _ _ _,by rw [encM];rfl,dbelow_new _ _⟩
 | cons nm v t =>
   obtain ⟨b,o,rfl⟩:∃ b o,A=some ⟨b,o,none⟩:=by rw [encM] at hR;unfold RowT at hR;obtain ⟨b,o,cs,e,_⟩:=hR;exact ⟨b,o,e⟩
   obtain ⟨xs,hx,hc⟩:=row_news (by exact hR)
   obtain ⟨L,hL⟩:∃ L,L=(VM.cons nm v t).len:=⟨_,rfl⟩
   have hlen:xs.length=L*6:=by rw [hL];exact tlvM_len hx
   have hone:∀ u,u ∈ xs→u.oneCell'=true:=tlvM_one hx
   rw [← hL] at hz ⊢
   have hLp:0 < L:=by rw [hL];simp [VM.len]
   have HL:=Hd hL
   have HX:=Hd hx
   have HC:=Hd hc
   have hblt:P b:=row_lt (by rw [encM] at hR;exact hR)
   have hbw:=hP b hblt
   have HO:=Hd hone
   have HN:=Hd hlen
   have hq:=fun W=>hnil W 56 97 (some ⟨b,o,none⟩) L c 0 0 Tryz.underlying56
   have O0:=Hd (own_lit0 w 97 6)
   have B0:=Hd (dbelow_new w (.cells #[] 97))
   clear hnil hR hx hc hL hone hlen
   go_enter Tryz.func140,Tryz.ntmps140
   go_wp2_with (at_builtin;go_loud (refine wpList_append_lies _ rfl _ _ 56 rfl w.heap.size 97 i0 z 6 96 Tryz.underlying56 hi hz0 hz1 hz2 hz3 (by decide) _ 0 [] rfl O0.out _ L c xs rfl HN.out (fun j u hj=>by rw [add_at];exact (B0.out.cell (p:=⟨b,o+j,none⟩) hbw).trans (HC.out j u hj)) HO.out hLp (by unfold maxLen;omega) (by omega) (by simp) _ rfl ?_;intro gg cap2 w4 hown4 hgrow hat hlt4;have HG4:=Hd hgrow;have HO4:=Hd hown4;have HT4:=Hd hat;clear hgrow hown4 hat))
   go_ret
   have B4:=below_grown (B:=w.heap.size) B0.out HG4.out B0.out.size (fun k hk=>by have e:some w.heap.size=some k:=hk;injection e with e;omega)
   exact ⟨_,xs,rfl,by have h:=HO4.out;rw [Nat.zero_add] at h;exact h,TLV.keep (fun k hk=>⟨hk,B4.block k (hP k hk)⟩) HX.out,B4⟩
end Go.Proofs.YtaekdfcpbepepaaGreatDoor
