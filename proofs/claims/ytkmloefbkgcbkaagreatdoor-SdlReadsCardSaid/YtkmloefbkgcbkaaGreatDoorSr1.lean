/- The walk of the document's own Block. -/
import Derived.Test.YtkmloefbkgcbkaaGreatDoorSr0
import Derived.StillTailTactics
import Derived.Deep.DeepCutAuto
import Derived.Deep.CutBlock
set_option maxRecDepth 100000
set_option maxHeartbeats 1000000
namespace Go.Proofs.YtkmloefbkgcbkaaGreatDoor.Blk
open Go.RowKit
theorem Oz (l:List UInt8):Zq (Y9 l)=linesL l:=by
 unfold Zq Y9;rw [List.map_map];have:((fun x:ByteArray=>x.data.toList) ∘ fun x:List UInt8=>(⟨x.toArray⟩:ByteArray))=id:=by funext x;simp
 rw [this,List.map_id]
theorem T6 {w:World} {base n:Nat} {A:Option Addr} {cap:Nat} {xs:List Value} (h:w.ownsRow base 9 1 (.slice A n cap) n xs) (hn:0 < n):∃ g,A=some ⟨g,0,none⟩∧base≤g∧g < w.heap.size∧n≤cap:=by
 rcases h.2 with ⟨_,h0⟩|⟨g,c,cur,hv,hb,_,hnc,_⟩
 · omega
 · have hv':=hv
   injection hv' with h1 h2 h3
   subst h1;exact ⟨g,rfl,hb,(h.lt g rfl).2,by omega⟩
theorem Yan {l t:List UInt8} (h:afterL l=some t):(firstL l).length+1+t.length≤l.length:=by
 have e:(firstL l).length+(l.dropWhile fun c=>!eolB c).length=l.length:=by
  unfold firstL;rw [← List.length_append,List.takeWhile_append_dropWhile]
 have : t.length < (l.dropWhile fun c=>!eolB c).length:=by
  unfold afterL at h;generalize l.dropWhile (fun c=>!eolB c)=r at *
  split at h
  · cases h
  · split at h
    · split at h
      · split at h
        · cases h;simp only [List.length_cons];omega
        · cases h;simp only [List.length_cons];omega
      · cases h;simp
    · cases h;simp
 omega
theorem P2:∀ (n:Nat) (l:List UInt8),l.length < n→(linesL l).length≤l.length+1∧(∀ x ∈ linesL l,x.length≤l.length)∧(joinTen (linesL l)).length≤l.length:=by
 intro n
 induction n with
 | zero=>intro l h;omega
 | succ n ih =>
   intro l hl
   have hf:(firstL l).length≤l.length:=by
     unfold firstL;have e:(l.takeWhile fun c=>!eolB c).length+(l.dropWhile fun c=>!eolB c).length=l.length:=by rw [← List.length_append,List.takeWhile_append_dropWhile]
     omega
   rw [linesL_eq]
   cases ha:afterL l with
   | none =>
     refine ⟨by simp,fun x hx=>?_,by simpa [joinTen] using hf⟩;simp only [List.mem_cons,List.not_mem_nil,or_false] at hx;rw [hx];exact hf
   | some t =>
     have hr:=Yan ha;obtain ⟨h1,h2,h3⟩:=ih t (by omega);refine ⟨by simp only [List.length_cons];omega,fun x hx=>?_,?_⟩
     · simp only [List.mem_cons] at hx
       rcases hx with hx|hx
       · rw [hx];exact hf
       · have:=h2 x hx;omega
     · show (joinTen (firstL l :: linesL t)).length≤_
       cases hlt:linesL t with
       | nil=>exact absurd hlt (Ar t)
       | cons y r =>
         rw [hlt] at h3
         show (firstL l++10 :: joinTen (y :: r)).length≤_;rw [List.length_append,List.length_cons];omega
def Zkw (m:Nat) (x:ByteArray):ByteArray:=x.extract (min m x.size) x.size
def Wh (m k:Nat) (xs:List ByteArray):List ByteArray:=xs.mapIdx fun i x=>if 1≤i∧i < k then Zkw m x else x
theorem Uo {m k j:Nat} {xs:List ByteArray} : (Wh m k xs)[j]? = (xs[j]?).map fun x=>if 1≤j∧j < k then Zkw m x else x:=by
 unfold Wh;rw [List.getElem?_mapIdx]
theorem P9 (m:Nat) (xs:List ByteArray):Wh m 1 xs=xs:=by
 apply List.ext_getElem?
 intro j;rw [Uo]
 cases xs[j]? with
 | none=>rfl
 | some x=>simp only [Option.map_some];rw [if_neg (by omega)]
theorem Zkn {m k:Nat} {xs:List ByteArray} {x:ByteArray} (hk:1≤k) (hx:xs[k]? = some x):(Wh m k xs).set k (Zkw m x)=Wh m (k+1) xs:=by
 apply List.ext_getElem?
 intro j;rw [List.getElem?_set,Uo,Uo]
 by_cases hj:k=j
 · subst hj
   rw [if_pos rfl,hx]
   have:k < (Wh m k xs).length:=by
     have:=(List.getElem?_eq_some_iff.1 hx).1;unfold Wh;rw [List.length_mapIdx];exact this
   rw [if_pos this];simp only [Option.map_some];rw [if_pos ⟨hk,by omega⟩]
 · rw [if_neg hj]
   cases xs[j]? with
   | none=>rfl
   | some y =>
     simp only [Option.map_some]
     by_cases h:1≤j∧j < k
     · rw [if_pos h,if_pos ⟨h.1,by omega⟩]
     · rw [if_neg h,if_neg (by omega)]
theorem Mo (m k:Nat) (xs:List ByteArray):(Wh m k xs).length=xs.length:=by unfold Wh;simp
theorem Zvp (m:Nat) (x:ByteArray):(Zkw m x).data.toList=x.data.toList.drop m:=by
 unfold Zkw;rw [U5,List.take_of_length_le (by rw [List.length_drop,← Lib.size_eq];omega)]
 by_cases h:m≤x.size
 · rw [Nat.min_eq_left h]
 · rw [Nat.min_eq_right (by omega),List.drop_eq_nil_of_le (by rw [← Lib.size_eq];omega),List.drop_eq_nil_of_le (by rw [← Lib.size_eq];omega)]
theorem Np (m:Nat) (xs:List ByteArray):Zq (Wh m xs.length xs)=cutL m (Zq xs):=by
 apply List.ext_getElem?
 intro j;unfold Zq;rw [List.getElem?_map,Uo]
 cases xs with
 | nil=>simp [cutL]
 | cons y t =>
   cases j with
   | zero=>simp [cutL]
   | succ j =>
     simp only [List.getElem?_cons_succ,List.map_cons,cutL,List.map_map,List.getElem?_map,List.length_cons,Option.map_map]
     cases h:t[j]? with
     | none=>rfl
     | some z =>
       have:=(List.getElem?_eq_some_iff.1 h).1;simp only [Option.map_some,Function.comp];rw [if_pos (by omega),Zvp]
theorem Op {w:World} {base n:Nat} {A:Option Addr} {cap:Nat} {xs:List ByteArray} (h:w.ownsRow base 9 1 (.slice A n cap) n (xs.map Value.string)):Fk w w.heap.size A n xs:=by
 have hl:xs.length=n:=by have:=h.1;rw [List.length_map] at this;omega
 subst hl;exact (C2 h).2
theorem L5 (p:List UInt8→Bool):∀ (a r:List (List UInt8)),a.all p=true→(a++r).dropWhile p=r.dropWhile p:=by
 intro a r h
 induction a with
 | nil=>rfl
 | cons x a ih =>
   rw [List.all_cons,Bool.and_eq_true] at h;rw [List.cons_append,List.dropWhile_cons,h.1];simp only [if_true];exact ih h.2
theorem Zqy {ls:List (List UInt8)} {f:Nat} (h:(ls.take f).all (fun l=>!inkB l)=true):ls.length≤f→Io ls=[]:=by
 intro hf;rw [List.take_of_length_le hf] at h;have:=L5 (fun l=>!inkB l) ls [] h;rw [List.append_nil] at this;exact this
theorem Q6 {ls:List (List UInt8)} {f:Nat} {x:List UInt8} (h:(ls.take f).all (fun l=>!inkB l)=true) (hx:ls[f]? = some x) (hi:inkB x=true):Io ls=ls.drop f:=by
 obtain ⟨hf,rfl⟩:=List.getElem?_eq_some_iff.1 hx;unfold Io
 conv=>lhs;rw [← List.take_append_drop f ls]
 rw [L5 _ _ _ h,List.drop_eq_getElem_cons hf,List.dropWhile_cons];simp [hi]
theorem Nv {ls:List (List UInt8)} {f:Nat} {x:List UInt8} (h:(ls.take f).all (fun l=>!inkB l)=true) (hx:ls[f]? = some x) (hi:inkB x=false):(ls.take (f+1)).all (fun l=>!inkB l)=true:=by
 rw [List.take_add_one,hx,List.all_append,h];simp [hi]
theorem Q7 {ls:List (List UInt8)} {u:Nat} {x:List UInt8} (h:(ls.drop (u+1)).all (fun l=>!inkB l)=true) (hx:ls[u]? = some x) (hi:inkB x=false):(ls.drop u).all (fun l=>!inkB l)=true:=by
 obtain ⟨hf,rfl⟩:=List.getElem?_eq_some_iff.1 hx;rw [List.drop_eq_getElem_cons hf,List.all_cons,h];simp [hi]
theorem Ybf {ls a b:List (List UInt8)} {f:Nat} (hF:Io ls=ls.drop f) (he:ls.drop f=a++b) (hb:b.all (fun l=>!inkB l)=true) (ha:a.reverse.dropWhile (fun l=>!inkB l)=a.reverse):Od ls=a:=by
 unfold Od;rw [hF,he,List.reverse_append];unfold Io;rw [L5 _ _ _ (by rw [List.all_reverse];exact hb),ha,List.reverse_reverse]
theorem Zx8 {ls:List (List UInt8)} {f:Nat} (hF:Io ls=ls.drop f) (h:(ls.drop f).all (fun l=>!inkB l)=true):Od ls=(ls.drop f).take (f - f):=by
 rw [Ybf (a:=[]) hF rfl h rfl];simp
theorem Tc {ls:List (List UInt8)} {f u:Nat} {x:List UInt8} (hF:Io ls=ls.drop f) (hf:f≤u) (h:(ls.drop (u+1)).all (fun l=>!inkB l)=true) (hx:ls[u]? = some x) (hi:inkB x=true):Od ls=(ls.drop f).take (u+1 - f):=by
 obtain ⟨hu,rfl⟩:=List.getElem?_eq_some_iff.1 hx;refine Ybf (b:=ls.drop (u+1)) hF ?_ h ?_
 · have:=(List.take_append_drop (u+1 - f) (ls.drop f)).symm
   rw [List.drop_drop,show f+(u+1 - f)=u+1 from by omega] at this;exact this
 · rw [show u+1 - f=(u - f)+1 from by omega,List.take_add_one,List.getElem?_drop,show f+(u - f)=u from by omega,List.getElem?_eq_getElem hu]
   simp [hi]
theorem Ycp:∀ (ts:List (List UInt8)) (x:List UInt8),ts ≠ []→joinTen (ts++[x])=joinTen ts++10 :: x:=by
 intro ts
 induction ts with
 | nil=>intro x h;exact absurd rfl h
 | cons y t ih =>
   intro x _
   cases t with
   | nil=>rfl
   | cons z t =>
     show y++10 :: joinTen (z :: t++[x])=(y++10 :: joinTen (z :: t))++10 :: x;rw [ih x (by simp)];simp
theorem rblock_any (s:ByteArray) (w:World) (hs:s.size≤9000) :
  Calls Tryz.prog 92 #[.string s] w fun e w'=>e=.returned (.string ⟨(valueL s.data.toList).toArray⟩)∧Below w.heap.size w w':=by
 have HR:=Hd (Yac s w hs)
 go_enter Tryz.func92,Tryz.ntmps92
 go_wp2_with fail
 refine HR.out.mono ?_;rintro e w1 ⟨A,cap,rfl,hown,hb⟩;have hroom:=P2 (s.data.toList.length+1) s.data.toList (by omega);rw [← Lib.size_eq] at hroom
 have hxs:∀ x ∈ Y9 s.data.toList,x.size≤100000:=by
  intro x hx;obtain ⟨l,hl,rfl⟩:=List.mem_map.1 hx;have:=hroom.2.1 l hl
  show l.length≤_;omega
 have hN:(Y9 s.data.toList).length≤9001:=by unfold Y9;rw [List.length_map];omega
 have hN1:1≤(Y9 s.data.toList).length:=by
  unfold Y9;rw [List.length_map];have:=Ar s.data.toList
  cases h:linesL s.data.toList with
  | nil=>exact absurd h this
  | cons _ _=>simp
 clear hroom;obtain ⟨g0,rfl,hbg,hgl,hcap⟩:=T6 hown (by omega);have HI:=Hd (Zzw (some ⟨g0,0,none⟩) (Y9 s.data.toList).length cap (Y9 s.data.toList) w1 (by omega) (C2 hown).2 hxs);have hib:=Ds _ hxs (Y9 s.data.toList).length;rw [Cq (Nat.le_refl _)] at hib;have HVAL:Hid (valueL s.data.toList=joinTen (Od (cutL (max (indentL (Zq (Y9 s.data.toList))) 0).toNat (Zq (Y9 s.data.toList))))):=Hd (by rw [Oz];rfl);generalize Y9 s.data.toList=xs at *;generalize hv:indentL (Zq xs)=v at *;have hib1:=hib.1;have hib2:=hib.2;have HEX:=Hd hxs;have HB:=Hd hb;clear hxs hv hib hb HR
 go_upto_region 2 with (fail)
 go_cut [4] (fun n wx=>n=.int .i64 ((max v 0).toNat:Int)∧w1=wx)
 case first =>
  go_wp2_with fail
  refine HI.out.mono ?_;rintro e w2 ⟨rfl,rfl⟩;go_wp2_with fail
  all_goals go_meet
  all_goals exact ⟨congrArg (Value.int .i64) (by omega),rfl⟩
 case rest =>
  obtain ⟨rfl,rfl⟩:=hcut;have hm1:(max v 0).toNat≤100000:=by omega
  clear HI hib1 hib2;generalize (max v 0).toNat=m at *;go_wp2_with fail
  go_loopg [5] (xs.length - 1) (fun g i wx=>∃ k:Nat,1≤k∧k+g=xs.length∧i=.int .i64 k∧wx.ownsRow w.heap.size 9 1 (.slice (some ⟨g0,0,none⟩) xs.length cap) xs.length ((Wh m k xs).map Value.string)∧Below w.heap.size w wx)
  case atStart=>exact ⟨1,by omega,by omega,rfl,by rw [P9];exact hown,HB.out⟩
  case round =>
   obtain ⟨k,hk1,hk,rfl,hown,hb⟩:=hrel
   cases gk with
   | succ g =>
     have hlt:k < xs.length:=by omega
     have hlt':(k:Int) < (xs.length:Int):=by omega
     have hk0:(0:Int)≤(k:Int):=by omega
     obtain ⟨x,hx⟩:∃ x,xs[k]? = some x:=⟨_,List.getElem?_eq_getElem hlt⟩
     have hget:(Wh m k xs)[k]? = some x:=by
      rw [Uo,hx];simp only [Option.map_some];rw [if_neg (by omega)]
     have c1:wr.cell? ⟨g0,k,none⟩=some (.string x):=by
      rw [World.ownsRow.cellAt hown k (by omega),List.getElem?_map,hget];rfl
     have f1:wr.frozen? ⟨g0,k,none⟩=false:=World.ownsRow.frozenAt hown k;have hxs:x.size≤100000:=HEX.out x (List.mem_of_getElem? hx);have HO:=Hd (World.ownsRow.stored hown k (.string (Zkw m x)));have HS:=Hd (Zkn (m:=m) hk1 hx);have HB2:=Hd hb;have hcx:Hid (Zkw m x=x.extract (min m x.size) x.size):=Hd rfl;clear hown hb hx hget HB;obtain ⟨K,hKd⟩:∃ K,min m x.size=K:=⟨_,rfl⟩;have hK:(if x.size < m then (x.size:Int) else (m:Int))=(K:Int):=by split<;>omega
     have hKs:(K:Int)≤(x.size:Int):=by omega
     have hK0:(0:Int)≤(K:Int):=by omega
     have HKd:=Hd hKd;clear hKd;go_wp2_with fail
     go_still_tail 15,(by kernel_rfl)
     change wpList _ _ _ _ _ wr.drew
     go_wp2
     go_roundg g
     case measure=>omega
     case rel =>
      refine ⟨k+1,by omega,by omega,by go_num,?_,(HB2.out.drew).setCell hbg _⟩;have e:((Wh m k xs).map Value.string).set k (.string (Zkw m x))=(Wh m (k+1) xs).map Value.string:=by rw [← HS.out,List.map_set]
      rw [← e,hcx.out,HKd.out];rw [hcx.out,HKd.out] at HO;exact HO.out.1.drew
   | zero =>
     obtain rfl:k=xs.length:=by omega
     have hyl:(Wh m xs.length xs).length=xs.length:=Mo _ _ _;have hyb:=Np m xs
     have hys:∀ y ∈ Wh m xs.length xs,y.size≤100000:=by
      intro y hy;obtain ⟨j,hj⟩:=List.mem_iff_getElem?.1 hy;rw [Uo] at hj;obtain ⟨x,hx,rfl⟩:=Option.map_eq_some_iff.1 hj;have:=HEX.out x (List.mem_of_getElem? hx)
      split
      · unfold Zkw;rw [ByteArray.size_extract];omega
      · exact this
     have hval:Hid (valueL s.data.toList=joinTen (Od (Zq (Wh m xs.length xs)))):=Hd (by rw [HVAL.out,hyb]);generalize Wh m xs.length xs=ys at *;have HS:=Hd (Op hown);have HYS:=Hd hys;have HYL:=Hd hyl;have HBB:=Hd hb;clear hown hyb hys hyl hb HVAL HB;generalize xs.length=N at *;clear HEX
     go_upto_block 2 with (fail)
     go_cut [6] (fun fr wx=>∃ f:Nat,f≤N∧fr=.int .i64 f∧Aside (Io (Zq ys)=(Zq ys).drop f)∧wr=wx)
     case first =>
      go_wp2_with fail
      go_loopg [6] N (fun g fr wx=>∃ f:Nat,f+g=N∧fr=.int .i64 f∧Aside (((Zq ys).take f).all (fun l=>!inkB l)=true)∧wr=wx)
      case atStart=>exact ⟨0,by omega,rfl,Aside.intro (by simp),rfl⟩
      case round =>
        obtain ⟨f,hf,rfl,H,rfl⟩:=hrel
        cases gk with
        | zero =>
          obtain rfl:f=N:=by omega
          have hT:=Hd (Zqy H.out (by unfold Zq;rw [List.length_map,HYL.out];omega));clear H;go_wp2_with fail
          go_meet
          exact ⟨_,by omega,rfl,Aside.intro (by rw [hT.out,List.drop_eq_nil_of_le (by unfold Zq;rw [List.length_map,HYL.out];omega)]),rfl⟩
        | succ g =>
          have hlt:f < N:=by omega
          have hlt':(f:Int) < (N:Int):=by omega
          obtain ⟨y,hy⟩:∃ y,ys[f]? = some y:=⟨_,List.getElem?_eq_getElem (by rw [HYL.out];omega)⟩;obtain ⟨b,o,e,_,hcell⟩:=HS.out.2 f y hy;injection e with e
          injection e with e1 e2
          subst e1 e2;rw [Nat.zero_add] at hcell;have HBk:=Hd (Pr y wr (HYS.out y (List.mem_of_getElem? hy)));have hyb:(Zq ys)[f]? = some y.data.toList:=by unfold Zq;rw [List.getElem?_map,hy];rfl
          cases hi:inkB y.data.toList
          · have hT:=Hd (Nv H.out hyb hi)
            have HIk:=Hd hi;clear H hy hyb hi;go_wp2_with fail
            refine HBk.out.mono ?_;rintro e w2 ⟨rfl,rfl⟩;rw [HIk.out];go_wp2_with fail
            go_roundg g
            case measure=>omega
            case rel=>exact ⟨f+1,by omega,by go_num,Aside.intro hT.out,rfl⟩
          · have hT:=Hd (Q6 H.out hyb hi)
            have HIk:=Hd hi;clear H hy hyb hi;go_wp2_with fail
            refine HBk.out.mono ?_;rintro e w2 ⟨rfl,rfl⟩;rw [HIk.out];go_wp2_with fail
            go_meet
            exact ⟨f,by omega,rfl,Aside.intro hT.out,rfl⟩
     case rest =>
      obtain ⟨f,hfN,rfl,HF,rfl⟩:=hcut
      go_upto_block 4 with (fail)
      go_cut [7] (fun tv wx=>∃ t:Nat,f≤t∧t≤N∧tv=.int .i64 t∧Aside (Od (Zq ys)=((Zq ys).drop f).take (t - f))∧wr=wx)
      case first =>
        go_wp2_with fail
        go_loopg [7] (N - f) (fun g tv wx=>∃ t:Nat,f≤t∧t≤f+g∧t≤N∧tv=.int .i64 t∧Aside (((Zq ys).drop t).all (fun l=>!inkB l)=true)∧wr=wx)
        case atStart=>exact ⟨N,by omega,by omega,by omega,rfl,Aside.intro (by rw [List.drop_eq_nil_of_le (by unfold Zq;rw [List.length_map,HYL.out];omega)];rfl),rfl⟩
        case round =>
          obtain ⟨t,hft,htg,htN,rfl,H,rfl⟩:=hrel
          by_cases hte:t=f
          · subst hte
            have hT:=Hd (Zx8 HF.out H.out);clear H;go_wp2_with fail
            go_meet
            exact ⟨t,by omega,by omega,rfl,Aside.intro hT.out,rfl⟩
          · have hft1:f < t:=by omega
            obtain ⟨g,rfl⟩:∃ g,gk=g+1:=⟨gk - 1,by omega⟩;obtain ⟨u,rfl⟩:∃ u,t=u+1:=⟨t - 1,by omega⟩;have hfu:(f:Int) < (u:Int)+1:=by omega
            have hu0:(0:Int)≤(u:Int):=by omega
            have hu1:(u:Int) < (N:Int):=by omega
            obtain ⟨y,hy⟩:∃ y,ys[u]? = some y:=⟨_,List.getElem?_eq_getElem (by rw [HYL.out];omega)⟩;obtain ⟨b,o,e,_,hcell⟩:=HS.out.2 u y hy;injection e with e
            injection e with e1 e2
            subst e1 e2;rw [Nat.zero_add] at hcell;have HBk:=Hd (Pr y wr (HYS.out y (List.mem_of_getElem? hy)));have hyb:(Zq ys)[u]? = some y.data.toList:=by unfold Zq;rw [List.getElem?_map,hy];rfl
            cases hi:inkB y.data.toList
            · have hT:=Hd (Q7 H.out hyb hi)
              have HIk:=Hd hi;clear H hy hyb hi hte;go_wp2_with fail
              refine HBk.out.mono ?_;rintro e w2 ⟨rfl,rfl⟩;rw [HIk.out];go_wp2_with fail
              go_roundg g
              case measure=>omega
              case rel=>exact ⟨u,by omega,by omega,by omega,by go_num,Aside.intro hT.out,rfl⟩
            · have hT:=Hd (Tc HF.out (by omega) H.out hyb hi)
              have HIk:=Hd hi;clear H hy hyb hi hte;go_wp2_with fail
              refine HBk.out.mono ?_;rintro e w2 ⟨rfl,rfl⟩;rw [HIk.out];go_wp2_with fail
              go_meet
              exact ⟨u+1,by omega,by omega,by go_num,Aside.intro hT.out,rfl⟩
      case rest =>
        obtain ⟨t,hft,htN,rfl,HT,rfl⟩:=hcut;go_wp2_with fail
        go_loopg [8,9] (t - f) (fun g out i wx=>∃ (k:Nat) (S:ByteArray),f≤k∧k+g=t∧i=.int .i64 k∧out=.string S∧S.size≤200000*(k - f)∧Aside (S.data.toList=joinTen (((Zq ys).drop f).take (k - f)))∧wr=wx)
        case atStart=>exact ⟨f,⟨#[]⟩,by omega,by omega,rfl,rfl,Nat.zero_le _,Aside.intro (by simp [joinTen]),rfl⟩
        case round =>
          obtain ⟨k,S,hfk,hkt,rfl,rfl,hSz,H,rfl⟩:=hrel
          cases gk with
          | zero =>
            obtain rfl:k=t:=by omega
            have hT:Hid ((⟨(valueL s.data.toList).toArray⟩:ByteArray)=S):=Hd (Gc (by rw [hval.out,HT.out];exact H.out));clear H;go_wp2_with fail
            go_ret
            exact ⟨Zja hT.out.symm,HBB.out⟩
          | succ g =>
            have hlt:k < t:=by omega
            have hlt':(k:Int) < (t:Int):=by omega
            have hk0:(0:Int)≤(k:Int):=by omega
            have hk1:(k:Int) < (N:Int):=by omega
            obtain ⟨y,hy⟩:∃ y,ys[k]? = some y:=⟨_,List.getElem?_eq_getElem (by rw [HYL.out];omega)⟩;obtain ⟨b,o,e,_,hcell⟩:=HS.out.2 k y hy;injection e with e
            injection e with e1 e2
            subst e1 e2;rw [Nat.zero_add] at hcell;have hyb:(Zq ys)[k]? = some y.data.toList:=by unfold Zq;rw [List.getElem?_map,hy];rfl
            have htk:((Zq ys).drop f).take (k+1 - f)=((Zq ys).drop f).take (k - f)++[y.data.toList]:=by
              rw [show k+1 - f=(k - f)+1 from by omega,List.take_add_one,List.getElem?_drop,show f+(k - f)=k from by omega,hyb]
              rfl
            by_cases hkf:f < k
            · have hkf':(f:Int) < (k:Int):=by omega
              have hT:Hid ((S ++ ⟨#[10]⟩++y).data.toList=joinTen (((Zq ys).drop f).take (k+1 - f))):=Hd (by
               rw [htk,Ycp _ _ (by
                intro e;have:=congrArg List.length e;rw [List.length_take,List.length_drop] at this;have hl:(Zq ys).length=N:=by unfold Zq;rw [List.length_map,HYL.out]
                rw [hl] at this;simp at this
                omega),← H.out]
               simp)
              have hys1:y.size≤100000:=HYS.out y (List.mem_of_getElem? hy);have hS1:(S ++ ⟨#[10]⟩).size=S.size+1:=ByteArray.size_append;have hS2:Hid ((S ++ ⟨#[10]⟩++y).size≤200000*(k+1 - f)):=Hd (by rw [ByteArray.size_append,hS1];omega);clear H hy hyb htk;go_wp2_with fail
              go_roundg g
              case measure=>omega
              case rel=>exact ⟨k+1,_,by omega,by omega,by go_num,rfl,hS2.out,Aside.intro hT.out,rfl⟩
            · obtain rfl:k=f:=by omega
              have hT:Hid ((S++y).data.toList=joinTen (((Zq ys).drop k).take (k+1 - k))):=Hd (by
               have hS:=H.out;rw [htk];simp only [Nat.sub_self,List.take_zero,List.nil_append] at hS ⊢;simp [hS,joinTen])
              have hys1:y.size≤100000:=HYS.out y (List.mem_of_getElem? hy);have hS2:Hid ((S++y).size≤200000*(k+1 - k)):=Hd (by rw [ByteArray.size_append];omega);clear H hy hyb htk;go_wp2_with fail
              go_roundg g
              case measure=>omega
              case rel=>exact ⟨k+1,_,by omega,by omega,by go_num,rfl,hS2.out,Aside.intro hT.out,rfl⟩
end Go.Proofs.YtkmloefbkgcbkaaGreatDoor.Blk
