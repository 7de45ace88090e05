/- The walk of the document's own Block. -/
import Derived.Test.YtpkmbhnikilihaaGreatDoorQv0
import Derived.StillTailTactics
import Derived.Deep.DeepCutAuto
import Derived.Deep.CutBlock
import Derived.Test.YtpkmbhnikilihaaGreatDoorRows
import Derived.ProofKit
import Derived.Carry
import Derived.Deep.Strs
import Derived.Deep.Slices
import Derived.Deep.WholeRow
import Derived.Deep.RegionHeld3
import Derived.Shelf.Abstract
set_option maxRecDepth 100000
set_option maxHeartbeats 4000000
namespace Go.Proofs.YtpkmbhnikilihaaGreatDoor.Blk
open Go.RowKit
theorem linesB_bytes (l:List UInt8):bytesL (linesB l)=linesL l:=by
 unfold bytesL linesB
 rw [List.map_map]
 have:((fun x:ByteArray=>x.data.toList) ∘ fun x:List UInt8=>(⟨x.toArray⟩:ByteArray))=id:=by funext x;simp
 rw [this,List.map_id]
theorem strs_some {w:World} {base n:Nat} {A:Option Addr} {cap:Nat} {xs:List Value} (h:w.ownsRow base 9 1 (.slice A n cap) n xs) (hn:0 < n):∃ g,A=some ⟨g,0,none⟩∧base≤g∧g < w.heap.size∧n≤cap:=by
 rcases h.2 with ⟨_,h0⟩|⟨g,c,cur,hv,hb,_,hnc,_⟩
 · omega
 · have hv':=hv
   injection hv' with h1 h2 h3
   subst h1
   exact ⟨g,rfl,hb,(h.lt g rfl).2,by omega⟩
theorem after_room {l t:List UInt8} (h:afterL l=some t):(firstL l).length+1+t.length≤l.length:=by
 have e:(firstL l).length+(l.dropWhile fun c=>!eolB c).length=l.length:=by
  unfold firstL
  rw [← List.length_append,List.takeWhile_append_dropWhile]
 have : t.length < (l.dropWhile fun c=>!eolB c).length:=by
  unfold afterL at h
  generalize l.dropWhile (fun c=>!eolB c)=r at *
  split at h
  · cases h
  · split at h
    · split at h
      · split at h
        · cases h;simp only [List.length_cons];omega
        · cases h;simp only [List.length_cons];omega
      · cases h;simp
    · cases h;simp
 omega
theorem lines_room:∀ (n:Nat) (l:List UInt8),l.length < n→(linesL l).length≤l.length+1∧(∀ x ∈ linesL l,x.length≤l.length)∧(joinTen (linesL l)).length≤l.length:=by
 intro n
 induction n with
 | zero=>intro l h;omega
 | succ n ih =>
   intro l hl
   have hf:(firstL l).length≤l.length:=by
     unfold firstL
     have e:(l.takeWhile fun c=>!eolB c).length+(l.dropWhile fun c=>!eolB c).length=l.length:=by rw [← List.length_append,List.takeWhile_append_dropWhile]
     omega
   rw [linesL_eq]
   cases ha:afterL l with
   | none =>
     refine ⟨by simp,fun x hx=>?_,by simpa [joinTen] using hf⟩
     simp only [List.mem_cons,List.not_mem_nil,or_false] at hx
     rw [hx];exact hf
   | some t =>
     have hr:=after_room ha
     obtain ⟨h1,h2,h3⟩:=ih t (by omega)
     refine ⟨by simp only [List.length_cons];omega,fun x hx=>?_,?_⟩
     · simp only [List.mem_cons] at hx
       rcases hx with hx|hx
       · rw [hx];exact hf
       · have:=h2 x hx;omega
     · show (joinTen (firstL l :: linesL t)).length≤_
       cases hlt:linesL t with
       | nil=>exact absurd hlt (linesL_ne t)
       | cons y r =>
         rw [hlt] at h3
         show (firstL l++10 :: joinTen (y :: r)).length≤_
         rw [List.length_append,List.length_cons]
         omega
def cutS (m:Nat) (x:ByteArray):ByteArray:=x.extract (min m x.size) x.size
def cutB (m k:Nat) (xs:List ByteArray):List ByteArray:=xs.mapIdx fun i x=>if 1≤i∧i < k then cutS m x else x
theorem cutB_get {m k j:Nat} {xs:List ByteArray} : (cutB m k xs)[j]? = (xs[j]?).map fun x=>if 1≤j∧j < k then cutS m x else x:=by
 unfold cutB;rw [List.getElem?_mapIdx]
theorem cutB_start (m:Nat) (xs:List ByteArray):cutB m 1 xs=xs:=by
 apply List.ext_getElem?
 intro j
 rw [cutB_get]
 cases xs[j]? with
 | none=>rfl
 | some x=>simp only [Option.map_some];rw [if_neg (by omega)]
theorem cutB_set {m k:Nat} {xs:List ByteArray} {x:ByteArray} (hk:1≤k) (hx:xs[k]? = some x):(cutB m k xs).set k (cutS m x)=cutB m (k+1) xs:=by
 apply List.ext_getElem?
 intro j
 rw [List.getElem?_set,cutB_get,cutB_get]
 by_cases hj:k=j
 · subst hj
   rw [if_pos rfl,hx]
   have:k < (cutB m k xs).length:=by
     have:=(List.getElem?_eq_some_iff.1 hx).1
     unfold cutB;rw [List.length_mapIdx];exact this
   rw [if_pos this]
   simp only [Option.map_some]
   rw [if_pos ⟨hk,by omega⟩]
 · rw [if_neg hj]
   cases xs[j]? with
   | none=>rfl
   | some y =>
     simp only [Option.map_some]
     by_cases h:1≤j∧j < k
     · rw [if_pos h,if_pos ⟨h.1,by omega⟩]
     · rw [if_neg h,if_neg (by omega)]
theorem cutB_length (m k:Nat) (xs:List ByteArray):(cutB m k xs).length=xs.length:=by unfold cutB;simp
theorem cutS_bytes (m:Nat) (x:ByteArray):(cutS m x).data.toList=x.data.toList.drop m:=by
 unfold cutS
 rw [extract_list,List.take_of_length_le (by rw [List.length_drop,← Lib.size_eq];omega)]
 by_cases h:m≤x.size
 · rw [Nat.min_eq_left h]
 · rw [Nat.min_eq_right (by omega),List.drop_eq_nil_of_le (by rw [← Lib.size_eq];omega),List.drop_eq_nil_of_le (by rw [← Lib.size_eq];omega)]
theorem cutB_bytes (m:Nat) (xs:List ByteArray):bytesL (cutB m xs.length xs)=cutL m (bytesL xs):=by
 apply List.ext_getElem?
 intro j
 unfold bytesL
 rw [List.getElem?_map,cutB_get]
 cases xs with
 | nil=>simp [cutL]
 | cons y t =>
   cases j with
   | zero=>simp [cutL]
   | succ j =>
     simp only [List.getElem?_cons_succ,List.map_cons,cutL,List.map_map,List.getElem?_map,List.length_cons,Option.map_map]
     cases h:t[j]? with
     | none=>rfl
     | some z =>
       have:=(List.getElem?_eq_some_iff.1 h).1
       simp only [Option.map_some,Function.comp]
       rw [if_pos (by omega),cutS_bytes]
theorem strs_of_own' {w:World} {base n:Nat} {A:Option Addr} {cap:Nat} {xs:List ByteArray} (h:w.ownsRow base 9 1 (.slice A n cap) n (xs.map Value.string)):StrsAt w w.heap.size A n xs:=by
 have hl:xs.length=n:=by have:=h.1;rw [List.length_map] at this;omega
 subst hl
 exact (strs_of_own h).2
theorem dropWhile_all (p:List UInt8→Bool):∀ (a r:List (List UInt8)),a.all p=true→(a++r).dropWhile p=r.dropWhile p:=by
 intro a r h
 induction a with
 | nil=>rfl
 | cons x a ih =>
   rw [List.all_cons,Bool.and_eq_true] at h
   rw [List.cons_append,List.dropWhile_cons,h.1]
   simp only [if_true]
   exact ih h.2
theorem front_end {ls:List (List UInt8)} {f:Nat} (h:(ls.take f).all (fun l=>!inkB l)=true):ls.length≤f→frontL ls=[]:=by
 intro hf
 rw [List.take_of_length_le hf] at h
 have:=dropWhile_all (fun l=>!inkB l) ls [] h
 rw [List.append_nil] at this
 exact this
theorem front_stop {ls:List (List UInt8)} {f:Nat} {x:List UInt8} (h:(ls.take f).all (fun l=>!inkB l)=true) (hx:ls[f]? = some x) (hi:inkB x=true):frontL ls=ls.drop f:=by
 obtain ⟨hf,rfl⟩:=List.getElem?_eq_some_iff.1 hx
 unfold frontL
 conv=>lhs;rw [← List.take_append_drop f ls]
 rw [dropWhile_all _ _ _ h,List.drop_eq_getElem_cons hf,List.dropWhile_cons]
 simp [hi]
theorem blank_next {ls:List (List UInt8)} {f:Nat} {x:List UInt8} (h:(ls.take f).all (fun l=>!inkB l)=true) (hx:ls[f]? = some x) (hi:inkB x=false):(ls.take (f+1)).all (fun l=>!inkB l)=true:=by
 rw [List.take_add_one,hx,List.all_append,h]
 simp [hi]
theorem blank_back {ls:List (List UInt8)} {u:Nat} {x:List UInt8} (h:(ls.drop (u+1)).all (fun l=>!inkB l)=true) (hx:ls[u]? = some x) (hi:inkB x=false):(ls.drop u).all (fun l=>!inkB l)=true:=by
 obtain ⟨hf,rfl⟩:=List.getElem?_eq_some_iff.1 hx
 rw [List.drop_eq_getElem_cons hf,List.all_cons,h]
 simp [hi]
theorem back_of {ls a b:List (List UInt8)} {f:Nat} (hF:frontL ls=ls.drop f) (he:ls.drop f=a++b) (hb:b.all (fun l=>!inkB l)=true) (ha:a.reverse.dropWhile (fun l=>!inkB l)=a.reverse):trimL ls=a:=by
 unfold trimL
 rw [hF,he,List.reverse_append]
 unfold frontL
 rw [dropWhile_all _ _ _ (by rw [List.all_reverse];exact hb),ha,List.reverse_reverse]
theorem back_end {ls:List (List UInt8)} {f:Nat} (hF:frontL ls=ls.drop f) (h:(ls.drop f).all (fun l=>!inkB l)=true):trimL ls=(ls.drop f).take (f - f):=by
 rw [back_of (a:=[]) hF rfl h rfl];simp
theorem back_stop {ls:List (List UInt8)} {f u:Nat} {x:List UInt8} (hF:frontL ls=ls.drop f) (hf:f≤u) (h:(ls.drop (u+1)).all (fun l=>!inkB l)=true) (hx:ls[u]? = some x) (hi:inkB x=true):trimL ls=(ls.drop f).take (u+1 - f):=by
 obtain ⟨hu,rfl⟩:=List.getElem?_eq_some_iff.1 hx
 refine back_of (b:=ls.drop (u+1)) hF ?_ h ?_
 · have:=(List.take_append_drop (u+1 - f) (ls.drop f)).symm
   rw [List.drop_drop,show f+(u+1 - f)=u+1 from by omega] at this
   exact this
 · rw [show u+1 - f=(u - f)+1 from by omega,List.take_add_one,List.getElem?_drop,show f+(u - f)=u from by omega,List.getElem?_eq_getElem hu]
   simp [hi]
theorem join_snoc:∀ (ts:List (List UInt8)) (x:List UInt8),ts ≠ []→joinTen (ts++[x])=joinTen ts++10 :: x:=by
 intro ts
 induction ts with
 | nil=>intro x h;exact absurd rfl h
 | cons y t ih =>
   intro x _
   cases t with
   | nil=>rfl
   | cons z t =>
     show y++10 :: joinTen (z :: t++[x])=(y++10 :: joinTen (z :: t))++10 :: x
     rw [ih x (by simp)]
     simp
theorem rblock_any (s:ByteArray) (w:World) (hs:s.size≤9000) :
  Calls Tryz.prog 235 #[.string s] w fun e w'=>e=.returned (.string ⟨(valueL s.data.toList).toArray⟩)∧Below w.heap.size w w':=by
 have HR:=Hd (rlines_any s w hs)
 go_enter Tryz.func235,Tryz.ntmps235
 go_wp2_with fail
 refine HR.out.mono ?_
 rintro e w1 ⟨A,cap,rfl,hown,hb⟩
 have hroom:=lines_room (s.data.toList.length+1) s.data.toList (by omega)
 rw [← Lib.size_eq] at hroom
 have hxs:∀ x ∈ linesB s.data.toList,x.size≤100000:=by
  intro x hx
  obtain ⟨l,hl,rfl⟩:=List.mem_map.1 hx
  have:=hroom.2.1 l hl
  show l.length≤_
  omega
 have hN:(linesB s.data.toList).length≤9001:=by unfold linesB;rw [List.length_map];omega
 have hN1:1≤(linesB s.data.toList).length:=by
  unfold linesB
  rw [List.length_map]
  have:=linesL_ne s.data.toList
  cases h:linesL s.data.toList with
  | nil=>exact absurd h this
  | cons _ _=>simp
 clear hroom
 obtain ⟨g0,rfl,hbg,hgl,hcap⟩:=strs_some hown (by omega)
 have HI:=Hd (rindent_any (some ⟨g0,0,none⟩) (linesB s.data.toList).length cap (linesB s.data.toList) w1 (by omega) (strs_of_own hown).2 hxs)
 have hib:=indTo_bd _ hxs (linesB s.data.toList).length
 rw [indTo_all (Nat.le_refl _)] at hib
 have HVAL:Hid (valueL s.data.toList=joinTen (trimL (cutL (max (indentL (bytesL (linesB s.data.toList))) 0).toNat (bytesL (linesB s.data.toList))))):=Hd (by rw [linesB_bytes];rfl)
 generalize linesB s.data.toList=xs at *
 generalize hv:indentL (bytesL xs)=v at *
 have hib1:=hib.1
 have hib2:=hib.2
 have HEX:=Hd hxs
 have HB:=Hd hb
 clear hxs hv hib hb HR
 go_upto_region 2 with (fail)
 go_cut [4] (fun n wx=>n=.int .i64 ((max v 0).toNat:Int)∧w1=wx)
 case first =>
  go_wp2_with fail
  refine HI.out.mono ?_
  rintro e w2 ⟨rfl,rfl⟩
  go_wp2_with fail
  all_goals go_meet
  all_goals exact ⟨congrArg (Value.int .i64) (by omega),rfl⟩
 case rest =>
  obtain ⟨rfl,rfl⟩:=hcut
  have hm1:(max v 0).toNat≤100000:=by omega
  clear HI hib1 hib2
  generalize (max v 0).toNat=m at *
  go_wp2_with fail
  go_loopg [5] (xs.length - 1) (fun g i wx=>∃ k:Nat,1≤k∧k+g=xs.length∧i=.int .i64 k∧wx.ownsRow w.heap.size 9 1 (.slice (some ⟨g0,0,none⟩) xs.length cap) xs.length ((cutB m k xs).map Value.string)∧Below w.heap.size w wx)
  case atStart=>exact ⟨1,by omega,by omega,rfl,by rw [cutB_start];exact hown,HB.out⟩
  case round =>
   obtain ⟨k,hk1,hk,rfl,hown,hb⟩:=hrel
   cases gk with
   | succ g =>
     have hlt:k < xs.length:=by omega
     have hlt':(k:Int) < (xs.length:Int):=by omega
     have hk0:(0:Int)≤(k:Int):=by omega
     obtain ⟨x,hx⟩:∃ x,xs[k]? = some x:=⟨_,List.getElem?_eq_getElem hlt⟩
     have hget:(cutB m k xs)[k]? = some x:=by
      rw [cutB_get,hx]
      simp only [Option.map_some]
      rw [if_neg (by omega)]
     have c1:wr.cell? ⟨g0,k,none⟩=some (.string x):=by
      rw [World.ownsRow.cellAt hown k (by omega),List.getElem?_map,hget];rfl
     have f1:wr.frozen? ⟨g0,k,none⟩=false:=World.ownsRow.frozenAt hown k
     have hxs:x.size≤100000:=HEX.out x (List.mem_of_getElem? hx)
     have HO:=Hd (World.ownsRow.stored hown k (.string (cutS m x)))
     have HS:=Hd (cutB_set (m:=m) hk1 hx)
     have HB2:=Hd hb
     have hcx:Hid (cutS m x=x.extract (min m x.size) x.size):=Hd rfl
     clear hown hb hx hget HB
     obtain ⟨K,hKd⟩:∃ K,min m x.size=K:=⟨_,rfl⟩
     have hK:(if x.size < m then (x.size:Int) else (m:Int))=(K:Int):=by split<;>omega
     have hKs:(K:Int)≤(x.size:Int):=by omega
     have hK0:(0:Int)≤(K:Int):=by omega
     have HKd:=Hd hKd
     clear hKd
     go_wp2_with fail
     go_still_tail 15,(by kernel_rfl)
     change wpList _ _ _ _ _ wr.drew
     go_wp2
     go_roundg g
     case measure=>omega
     case rel =>
      refine ⟨k+1,by omega,by omega,by go_num,?_,(HB2.out.drew).setCell hbg _⟩
      have e:((cutB m k xs).map Value.string).set k (.string (cutS m x))=(cutB m (k+1) xs).map Value.string:=by rw [← HS.out,List.map_set]
      rw [← e,hcx.out,HKd.out]
      rw [hcx.out,HKd.out] at HO
      exact HO.out.1.drew
   | zero =>
     obtain rfl:k=xs.length:=by omega
     have hyl:(cutB m xs.length xs).length=xs.length:=cutB_length _ _ _
     have hyb:=cutB_bytes m xs
     have hys:∀ y ∈ cutB m xs.length xs,y.size≤100000:=by
      intro y hy
      obtain ⟨j,hj⟩:=List.mem_iff_getElem?.1 hy
      rw [cutB_get] at hj
      obtain ⟨x,hx,rfl⟩:=Option.map_eq_some_iff.1 hj
      have:=HEX.out x (List.mem_of_getElem? hx)
      split
      · unfold cutS;rw [ByteArray.size_extract];omega
      · exact this
     have hval:Hid (valueL s.data.toList=joinTen (trimL (bytesL (cutB m xs.length xs)))):=Hd (by rw [HVAL.out,hyb])
     generalize cutB m xs.length xs=ys at *
     have HS:=Hd (strs_of_own' hown)
     have HYS:=Hd hys
     have HYL:=Hd hyl
     have HBB:=Hd hb
     clear hown hyb hys hyl hb HVAL HB
     generalize xs.length=N at *
     clear HEX
     go_upto_block 2 with (fail)
     go_cut [6] (fun fr wx=>∃ f:Nat,f≤N∧fr=.int .i64 f∧Aside (frontL (bytesL ys)=(bytesL ys).drop f)∧wr=wx)
     case first =>
      go_wp2_with fail
      go_loopg [6] N (fun g fr wx=>∃ f:Nat,f+g=N∧fr=.int .i64 f∧Aside (((bytesL ys).take f).all (fun l=>!inkB l)=true)∧wr=wx)
      case atStart=>exact ⟨0,by omega,rfl,Aside.intro (by simp),rfl⟩
      case round =>
        obtain ⟨f,hf,rfl,H,rfl⟩:=hrel
        cases gk with
        | zero =>
          obtain rfl:f=N:=by omega
          have hT:=Hd (front_end H.out (by unfold bytesL;rw [List.length_map,HYL.out];omega))
          clear H
          go_wp2_with fail
          go_meet
          exact ⟨_,by omega,rfl,Aside.intro (by rw [hT.out,List.drop_eq_nil_of_le (by unfold bytesL;rw [List.length_map,HYL.out];omega)]),rfl⟩
        | succ g =>
          have hlt:f < N:=by omega
          have hlt':(f:Int) < (N:Int):=by omega
          obtain ⟨y,hy⟩:∃ y,ys[f]? = some y:=⟨_,List.getElem?_eq_getElem (by rw [HYL.out];omega)⟩
          obtain ⟨b,o,e,_,hcell⟩:=HS.out.2 f y hy
          injection e with e
          injection e with e1 e2
          subst e1 e2
          rw [Nat.zero_add] at hcell
          have HBk:=Hd (rblank_any y wr (HYS.out y (List.mem_of_getElem? hy)))
          have hyb:(bytesL ys)[f]? = some y.data.toList:=by unfold bytesL;rw [List.getElem?_map,hy];rfl
          cases hi:inkB y.data.toList
          · have hT:=Hd (blank_next H.out hyb hi)
            have HIk:=Hd hi
            clear H hy hyb hi
            go_wp2_with fail
            refine HBk.out.mono ?_
            rintro e w2 ⟨rfl,rfl⟩
            rw [HIk.out]
            go_wp2_with fail
            go_roundg g
            case measure=>omega
            case rel=>exact ⟨f+1,by omega,by go_num,Aside.intro hT.out,rfl⟩
          · have hT:=Hd (front_stop H.out hyb hi)
            have HIk:=Hd hi
            clear H hy hyb hi
            go_wp2_with fail
            refine HBk.out.mono ?_
            rintro e w2 ⟨rfl,rfl⟩
            rw [HIk.out]
            go_wp2_with fail
            go_meet
            exact ⟨f,by omega,rfl,Aside.intro hT.out,rfl⟩
     case rest =>
      obtain ⟨f,hfN,rfl,HF,rfl⟩:=hcut
      go_upto_block 4 with (fail)
      go_cut [7] (fun tv wx=>∃ t:Nat,f≤t∧t≤N∧tv=.int .i64 t∧Aside (trimL (bytesL ys)=((bytesL ys).drop f).take (t - f))∧wr=wx)
      case first =>
        go_wp2_with fail
        go_loopg [7] (N - f) (fun g tv wx=>∃ t:Nat,f≤t∧t≤f+g∧t≤N∧tv=.int .i64 t∧Aside (((bytesL ys).drop t).all (fun l=>!inkB l)=true)∧wr=wx)
        case atStart=>exact ⟨N,by omega,by omega,by omega,rfl,Aside.intro (by rw [List.drop_eq_nil_of_le (by unfold bytesL;rw [List.length_map,HYL.out];omega)];rfl),rfl⟩
        case round =>
          obtain ⟨t,hft,htg,htN,rfl,H,rfl⟩:=hrel
          by_cases hte:t=f
          · subst hte
            have hT:=Hd (back_end HF.out H.out)
            clear H
            go_wp2_with fail
            go_meet
            exact ⟨t,by omega,by omega,rfl,Aside.intro hT.out,rfl⟩
          · have hft1:f < t:=by omega
            obtain ⟨g,rfl⟩:∃ g,gk=g+1:=⟨gk - 1,by omega⟩
            obtain ⟨u,rfl⟩:∃ u,t=u+1:=⟨t - 1,by omega⟩
            have hfu:(f:Int) < (u:Int)+1:=by omega
            have hu0:(0:Int)≤(u:Int):=by omega
            have hu1:(u:Int) < (N:Int):=by omega
            obtain ⟨y,hy⟩:∃ y,ys[u]? = some y:=⟨_,List.getElem?_eq_getElem (by rw [HYL.out];omega)⟩
            obtain ⟨b,o,e,_,hcell⟩:=HS.out.2 u y hy
            injection e with e
            injection e with e1 e2
            subst e1 e2
            rw [Nat.zero_add] at hcell
            have HBk:=Hd (rblank_any y wr (HYS.out y (List.mem_of_getElem? hy)))
            have hyb:(bytesL ys)[u]? = some y.data.toList:=by unfold bytesL;rw [List.getElem?_map,hy];rfl
            cases hi:inkB y.data.toList
            · have hT:=Hd (blank_back H.out hyb hi)
              have HIk:=Hd hi
              clear H hy hyb hi hte
              go_wp2_with fail
              refine HBk.out.mono ?_
              rintro e w2 ⟨rfl,rfl⟩
              rw [HIk.out]
              go_wp2_with fail
              go_roundg g
              case measure=>omega
              case rel=>exact ⟨u,by omega,by omega,by omega,by go_num,Aside.intro hT.out,rfl⟩
            · have hT:=Hd (back_stop HF.out (by omega) H.out hyb hi)
              have HIk:=Hd hi
              clear H hy hyb hi hte
              go_wp2_with fail
              refine HBk.out.mono ?_
              rintro e w2 ⟨rfl,rfl⟩
              rw [HIk.out]
              go_wp2_with fail
              go_meet
              exact ⟨u+1,by omega,by omega,by go_num,Aside.intro hT.out,rfl⟩
      case rest =>
        obtain ⟨t,hft,htN,rfl,HT,rfl⟩:=hcut
        go_wp2_with fail
        go_loopg [8,9] (t - f) (fun g out i wx=>∃ (k:Nat) (S:ByteArray),f≤k∧k+g=t∧i=.int .i64 k∧out=.string S∧S.size≤200000*(k - f)∧Aside (S.data.toList=joinTen (((bytesL ys).drop f).take (k - f)))∧wr=wx)
        case atStart=>exact ⟨f,⟨#[]⟩,by omega,by omega,rfl,rfl,Nat.zero_le _,Aside.intro (by simp [joinTen]),rfl⟩
        case round =>
          obtain ⟨k,S,hfk,hkt,rfl,rfl,hSz,H,rfl⟩:=hrel
          cases gk with
          | zero =>
            obtain rfl:k=t:=by omega
            have hT:Hid ((⟨(valueL s.data.toList).toArray⟩:ByteArray)=S):=Hd (mk_of (by rw [hval.out,HT.out];exact H.out))
            clear H
            go_wp2_with fail
            go_ret
            exact ⟨ret_str hT.out.symm,HBB.out⟩
          | succ g =>
            have hlt:k < t:=by omega
            have hlt':(k:Int) < (t:Int):=by omega
            have hk0:(0:Int)≤(k:Int):=by omega
            have hk1:(k:Int) < (N:Int):=by omega
            obtain ⟨y,hy⟩:∃ y,ys[k]? = some y:=⟨_,List.getElem?_eq_getElem (by rw [HYL.out];omega)⟩
            obtain ⟨b,o,e,_,hcell⟩:=HS.out.2 k y hy
            injection e with e
            injection e with e1 e2
            subst e1 e2
            rw [Nat.zero_add] at hcell
            have hyb:(bytesL ys)[k]? = some y.data.toList:=by unfold bytesL;rw [List.getElem?_map,hy];rfl
            have htk:((bytesL ys).drop f).take (k+1 - f)=((bytesL ys).drop f).take (k - f)++[y.data.toList]:=by
              rw [show k+1 - f=(k - f)+1 from by omega,List.take_add_one,List.getElem?_drop,show f+(k - f)=k from by omega,hyb]
              rfl
            by_cases hkf:f < k
            · have hkf':(f:Int) < (k:Int):=by omega
              have hT:Hid ((S ++ ⟨#[10]⟩++y).data.toList=joinTen (((bytesL ys).drop f).take (k+1 - f))):=Hd (by
               rw [htk,join_snoc _ _ (by
                intro e
                have:=congrArg List.length e
                rw [List.length_take,List.length_drop] at this
                have hl:(bytesL ys).length=N:=by unfold bytesL;rw [List.length_map,HYL.out]
                rw [hl] at this
                simp at this
                omega),← H.out]
               simp)
              have hys1:y.size≤100000:=HYS.out y (List.mem_of_getElem? hy)
              have hS1:(S ++ ⟨#[10]⟩).size=S.size+1:=ByteArray.size_append
              have hS2:Hid ((S ++ ⟨#[10]⟩++y).size≤200000*(k+1 - f)):=Hd (by rw [ByteArray.size_append,hS1];omega)
              clear H hy hyb htk
              go_wp2_with fail
              go_roundg g
              case measure=>omega
              case rel=>exact ⟨k+1,_,by omega,by omega,by go_num,rfl,hS2.out,Aside.intro hT.out,rfl⟩
            · obtain rfl:k=f:=by omega
              have hT:Hid ((S++y).data.toList=joinTen (((bytesL ys).drop k).take (k+1 - k))):=Hd (by
               have hS:=H.out
               rw [htk]
               simp only [Nat.sub_self,List.take_zero,List.nil_append] at hS ⊢
               simp [hS,joinTen])
              have hys1:y.size≤100000:=HYS.out y (List.mem_of_getElem? hy)
              have hS2:Hid ((S++y).size≤200000*(k+1 - k)):=Hd (by rw [ByteArray.size_append];omega)
              clear H hy hyb htk
              go_wp2_with fail
              go_roundg g
              case measure=>omega
              case rel=>exact ⟨k+1,_,by omega,by omega,by go_num,rfl,hS2.out,Aside.intro hT.out,rfl⟩
end Go.Proofs.YtpkmbhnikilihaaGreatDoor.Blk
namespace Go.Proofs.YtpkmbhnikilihaaGreatDoor
open Go.ChangeShapes Go.WideShapes Go.ChangeAt Go.RowKit
mutual
inductive VT where
 | mk (k n:Int) (s:ByteArray) (l:VL) (m:VM)
inductive VL where
 | nil
 | cons (v:VT) (t:VL)
inductive VM where
 | nil
 | cons (name:ByteArray) (v:VT) (t:VM)
end
def VL.len:VL→Nat
 | .nil=>0
 | .cons _ t=>t.len+1
def VM.len:VM→Nat
 | .nil=>0
 | .cons _ _ t=>t.len+1
def VL.get:VL→Nat→Option VT
 | .nil,_=>none
 | .cons v _,0=>some v
 | .cons _ t,j+1=>t.get j
def VM.get:VM→Nat→Option (ByteArray × VT)
 | .nil,_=>none
 | .cons nm v _,0=>some (nm,v)
 | .cons _ _ t,j+1=>t.get j
theorem VL.get_lt:∀ {l:VL} {j:Nat},j < l.len→∃ v,l.get j=some v
 | .nil,_,h=>by simp [VL.len] at h
 | .cons v _,0,_=>⟨v,rfl⟩
 | .cons _ t,j+1,h=>VL.get_lt (l:=t) (by simp [VL.len] at h;omega)
theorem VM.get_lt:∀ {l:VM} {j:Nat},j < l.len→∃ v,l.get j=some v
 | .nil,_,h=>by simp [VM.len] at h
 | .cons nm v _,0,_=>⟨(nm,v),rfl⟩
 | .cons _ _ t,j+1,h=>VM.get_lt (l:=t) (by simp [VM.len] at h;omega)
def Five (w:World) (b o:Nat) (c0 c1 c2 c3 c4:Value):Prop:=w.cell? ⟨b,o,none⟩=some c0∧w.cell? ⟨b,o+1,none⟩=some c1∧w.cell? ⟨b,o+2,none⟩=some c2∧w.cell? ⟨b,o+3,none⟩=some c3∧w.cell? ⟨b,o+4,none⟩=some c4
theorem Five.below {w w':World} {B b o:Nat} {c0 c1 c2 c3 c4:Value} (h:Five w b o c0 c1 c2 c3 c4) (hb:Below B w w') (hlt:b < B):Five w' b o c0 c1 c2 c3 c4:=
 ⟨(hb.cell (p:=⟨b,_,none⟩) hlt).trans h.1,(hb.cell (p:=⟨b,_,none⟩) hlt).trans h.2.1,(hb.cell (p:=⟨b,_,none⟩) hlt).trans h.2.2.1,(hb.cell (p:=⟨b,_,none⟩) hlt).trans h.2.2.2.1,(hb.cell (p:=⟨b,_,none⟩) hlt).trans h.2.2.2.2⟩
mutual
def VAt (w:World) (B:Nat):VT→Value→Value→Value→Value→Value→Prop
 | .mk k n s l m,c0,c1,c2,c3,c4=>c0=.int .i64 k∧c1=.int .i64 n∧c2=.string s∧s.size≤9223372036854775807∧(∃ A c,c3=.slice A l.len c∧l.len≤9223372036854775807∧LAt w B l A 0)∧∃ A c,c4=.slice A m.len c∧m.len≤9223372036854775807∧MAt w B m A 0
def LAt (w:World) (B:Nat):VL→Option Addr→Nat→Prop
 | .nil,_,_=>True
 | .cons v t,A,j=>(∃ b o c0 c1 c2 c3 c4,A=some ⟨b,o,none⟩∧b < B∧Five w b (o+j*5) c0 c1 c2 c3 c4∧VAt w B v c0 c1 c2 c3 c4)∧LAt w B t A (j+1)
def MAt (w:World) (B:Nat):VM→Option Addr→Nat→Prop
 | .nil,_,_=>True
 | .cons nm v t,A,j=>(∃ b o c0 c1 c2 c3 c4,A=some ⟨b,o,none⟩∧b < B∧w.cell? ⟨b,o+j*6,none⟩=some (.string nm)∧nm.size≤9223372036854775807∧Five w b (o+j*6+1) c0 c1 c2 c3 c4∧VAt w B v c0 c1 c2 c3 c4)∧MAt w B t A (j+1)
end
mutual
theorem VAt.below {w w':World} {B:Nat} (hb:Below B w w'):∀ (v:VT) (c0 c1 c2 c3 c4:Value),VAt w B v c0 c1 c2 c3 c4→VAt w' B v c0 c1 c2 c3 c4
 | .mk k n s l m,c0,c1,c2,c3,c4,h=>by
   unfold VAt at h ⊢
   obtain ⟨h0,h1,h2,hs,⟨A,c,h3,g3,h4⟩,A',c',h5,g5,h6⟩:=h
   exact ⟨h0,h1,h2,hs,⟨A,c,h3,g3,LAt.below hb l A 0 h4⟩,A',c',h5,g5,MAt.below hb m A' 0 h6⟩
theorem LAt.below {w w':World} {B:Nat} (hb:Below B w w'):∀ (l:VL) (A:Option Addr) (j:Nat),LAt w B l A j→LAt w' B l A j
 | .nil,_,_,_=>by unfold LAt;trivial
 | .cons v t,A,j,h=>by
   unfold LAt at h ⊢
   obtain ⟨⟨b,o,c0,c1,c2,c3,c4,hA,hlt,hf,hv⟩,ht⟩:=h
   exact ⟨⟨b,o,c0,c1,c2,c3,c4,hA,hlt,hf.below hb hlt,VAt.below hb v _ _ _ _ _ hv⟩,LAt.below hb t A (j+1) ht⟩
theorem MAt.below {w w':World} {B:Nat} (hb:Below B w w'):∀ (l:VM) (A:Option Addr) (j:Nat),MAt w B l A j→MAt w' B l A j
 | .nil,_,_,_=>by unfold MAt;trivial
 | .cons nm v t,A,j,h=>by
   unfold MAt at h ⊢
   obtain ⟨⟨b,o,c0,c1,c2,c3,c4,hA,hlt,hn,hz,hf,hv⟩,ht⟩:=h
   exact ⟨⟨b,o,c0,c1,c2,c3,c4,hA,hlt,(hb.cell (p:=⟨b,_,none⟩) hlt).trans hn,hz,hf.below hb hlt,VAt.below hb v _ _ _ _ _ hv⟩,MAt.below hb t A (j+1) ht⟩
end
theorem LAt.at {w:World} {B:Nat} : ∀ {l:VL} {A:Option Addr} {i j:Nat} {v:VT},LAt w B l A i→l.get j=some v→∃ b o c0 c1 c2 c3 c4,A=some ⟨b,o,none⟩∧b < B∧Five w b (o+(i+j)*5) c0 c1 c2 c3 c4∧VAt w B v c0 c1 c2 c3 c4
 | .nil,_,_,_,_,_,h=>by simp [VL.get] at h
 | .cons u t,A,i,0,v,h,hg=>by
   unfold LAt at h
   have:u=v:=by simpa [VL.get] using hg
   subst this
   exact h.1
 | .cons u t,A,i,j+1,v,h,hg=>by
   unfold LAt at h
   have:=LAt.at h.2 (j:=j) (v:=v) hg
   rwa [show i+1+j=i+(j+1) by omega] at this
theorem MAt.at {w:World} {B:Nat} : ∀ {l:VM} {A:Option Addr} {i j:Nat} {nm:ByteArray} {v:VT},MAt w B l A i→l.get j=some (nm,v)→∃ b o c0 c1 c2 c3 c4,A=some ⟨b,o,none⟩∧b < B∧w.cell? ⟨b,o+(i+j)*6,none⟩=some (.string nm)∧nm.size≤9223372036854775807∧Five w b (o+(i+j)*6+1) c0 c1 c2 c3 c4∧VAt w B v c0 c1 c2 c3 c4
 | .nil,_,_,_,_,_,_,h=>by simp [VM.get] at h
 | .cons u x t,A,i,0,nm,v,h,hg=>by
   unfold MAt at h
   have:u=nm∧x=v:=by simpa [VM.get] using hg
   obtain ⟨rfl,rfl⟩:=this
   exact h.1
 | .cons u x t,A,i,j+1,nm,v,h,hg=>by
   unfold MAt at h
   have:=MAt.at h.2 (j:=j) (nm:=nm) (v:=v) hg
   rwa [show i+1+j=i+(j+1) by omega] at this
theorem add_at {b o i:Nat} : (⟨b,o,none⟩:Addr).add i=⟨b,o+i,none⟩:=by unfold Addr.add;split<;>simp_all
open Go.RowKit
mutual
def sizeV:VT→Nat
 | .mk _ _ s l m=>1+s.size+sizeL l+sizeM m
def sizeL:VL→Nat
 | .nil=>0
 | .cons v t=>sizeV v+sizeL t
def sizeM:VM→Nat
 | .nil=>0
 | .cons nm v t=>nm.size+sizeV v+sizeM t
end
theorem sizeL_get:∀ {l:VL} {j:Nat} {v:VT},l.get j=some v→sizeV v≤sizeL l
 | .nil,_,_,h=>by simp [VL.get] at h
 | .cons u t,0,v,h=>by
   have:u=v:=by simpa [VL.get] using h
   subst this
   rw [sizeL];omega
 | .cons u t,j+1,v,h=>by
   have:=sizeL_get (l:=t) (j:=j) (v:=v) h
   rw [sizeL];omega
theorem sizeM_get:∀ {l:VM} {j:Nat} {nm:ByteArray} {v:VT},l.get j=some (nm,v)→nm.size+sizeV v≤sizeM l
 | .nil,_,_,_,h=>by simp [VM.get] at h
 | .cons x u t,0,nm,v,h=>by
   have:x=nm∧u=v:=by simpa [VM.get] using h
   obtain ⟨rfl,rfl⟩:=this
   rw [sizeM];omega
 | .cons x u t,j+1,nm,v,h=>by
   have:=sizeM_get (l:=t) (j:=j) (nm:=nm) (v:=v) h
   rw [sizeM];omega
def KV (w:World) (c2 c3 c4:Value) (w':World):Prop:=w'.cell? ⟨w.heap.size,2,none⟩=some c2∧w'.cell? ⟨w.heap.size,3,none⟩=some c3∧w'.cell? ⟨w.heap.size,4,none⟩=some c4∧Below w.heap.size w w'∧w.heap.size < w'.heap.size
theorem KV.next {w W W':World} {c2 c3 c4:Value} (h:KV w c2 c3 c4 W) (hb:Below W.heap.size W W'):KV w c2 c3 c4 W':=by
 obtain ⟨h2,h3,h4,hB,hs⟩:=h
 exact ⟨(hb.cell (p:=⟨_,_,none⟩) hs).trans h2,(hb.cell (p:=⟨_,_,none⟩) hs).trans h3,(hb.cell (p:=⟨_,_,none⟩) hs).trans h4,hB.trans (hb.mono hB.size),Nat.lt_of_lt_of_le hs hb.size⟩
def KM (w:World) (c2 c3 c4:Value) (b O:Nat) (nm d0 d1 d2 d3 d4:Value) (w':World):Prop:=w'.cell? ⟨w.heap.size,4,none⟩=some c4∧w'.cell? ⟨b,O,none⟩=some nm∧Five w' b (O+1) d0 d1 d2 d3 d4∧KV w c2 c3 c4 w'
theorem KM.next {w W W':World} {c2 c3 c4:Value} {b O:Nat} {nm d0 d1 d2 d3 d4:Value} (h:KM w c2 c3 c4 b O nm d0 d1 d2 d3 d4 W) (hbw:b < w.heap.size) (hb:Below W.heap.size W W'):KM w c2 c3 c4 b O nm d0 d1 d2 d3 d4 W':=by
 obtain ⟨h4,hn,hF,hK⟩:=h
 have hl:b < W.heap.size:=Nat.lt_trans hbw hK.2.2.2.2
 have hK':=hK.next hb
 exact ⟨hK'.2.2.1,(hb.cell (p:=⟨b,_,none⟩) hl).trans hn,hF.below hb hl,hK'⟩
theorem KM.below {w W:World} {c2 c3 c4:Value} {b O:Nat} {nm d0 d1 d2 d3 d4:Value} (h:KM w c2 c3 c4 b O nm d0 d1 d2 d3 d4 W):Below w.heap.size w W:=h.2.2.2.2.2.2.1
theorem vaside {p:Prop} (h:p):Aside p:=h
theorem vbelow_draws {B:Nat} {a w:World} (h:Below B a w) (n:Nat):Below B a (w.drewN n):=⟨h.os,h.tape,h.output,h.size,h.block⟩
theorem VL.ext:∀ {l l':VL},l.len=l'.len→(∀ j,j < l.len→l.get j=l'.get j)→l=l'
 | .nil,.nil,_,_=>rfl
 | .nil,.cons _ _,h,_=>by simp [VL.len] at h
 | .cons _ _,.nil,h,_=>by simp [VL.len] at h
 | .cons u t,.cons u' t',h,hg=>by
   have h0:u=u':=by simpa [VL.get] using hg 0 (by rw [VL.len];omega)
   have ht:t=t':=VL.ext (by simp only [VL.len] at h;omega) (fun j hj=>by simpa [VL.get] using hg (j+1) (by rw [VL.len];omega))
   rw [h0,ht]
theorem VM.ext:∀ {l l':VM},l.len=l'.len→(∀ j,j < l.len→l.get j=l'.get j)→l=l'
 | .nil,.nil,_,_=>rfl
 | .nil,.cons _ _ _,h,_=>by simp [VM.len] at h
 | .cons _ _ _,.nil,h,_=>by simp [VM.len] at h
 | .cons x u t,.cons x' u' t',h,hg=>by
   have h0:x=x'∧u=u':=by simpa [VM.get] using hg 0 (by rw [VM.len];omega)
   have ht:t=t':=VM.ext (by simp only [VM.len] at h;omega) (fun j hj=>by simpa [VM.get] using hg (j+1) (by rw [VM.len];omega))
   rw [h0.1,h0.2,ht]
def AgreeL (l l':VL) (q:Nat):Prop:=∀ j,j < q→l.get j=l'.get j
def AgreeM (l l':VM) (q:Nat):Prop:=∀ j,j < q→l.get j=l'.get j
theorem AgreeL.next {l l':VL} {q:Nat} {v:VT} (h:AgreeL l l' q) (h1:l.get q=some v) (h2:l'.get q=some v):AgreeL l l' (q+1):=fun j hj=>by
 rcases Nat.lt_or_ge j q with h'|h'
 · exact h j h'
 · obtain rfl:j=q:=by omega
   rw [h1,h2]
theorem AgreeM.next {l l':VM} {q:Nat} {v:ByteArray × VT} (h:AgreeM l l' q) (h1:l.get q=some v) (h2:l'.get q=some v):AgreeM l l' (q+1):=fun j hj=>by
 rcases Nat.lt_or_ge j q with h'|h'
 · exact h j h'
 · obtain rfl:j=q:=by omega
   rw [h1,h2]
def SameC (u:VT):Prop:=∀ (v:VT) (c0 c1 c2 c3 c4 d0 d1 d2 d3 d4:Value) (w:World) (B:Nat),B≤w.heap.size→VAt w B u c0 c1 c2 c3 c4→VAt w B v d0 d1 d2 d3 d4 →
 Calls Tryz.prog 21 #[.agg #[c0,c1,c2,c3,c4],.agg #[d0,d1,d2,d3,d4]] w fun e w'=>(∃ b,e=.returned (.bool b)∧(b=true ↔ u=v))∧Below w.heap.size w w'
def MembC (m:VM):Prop:=∀ (m':VM) (A A':Option Addr) (c c':Nat) (w:World) (B:Nat),B≤w.heap.size→m.len≤9223372036854775807→m'.len≤9223372036854775807→MAt w B m A 0→MAt w B m' A' 0 →
 Calls Tryz.prog 55 #[.slice A m.len c,.slice A' m'.len c'] w fun e w'=>(∃ b,e=.returned (.bool b)∧(b=true ↔ m=m'))∧Below w.heap.size w w'
theorem vsaid {p q:Prop} {b:Bool} (h:b=true ↔ p) (hq:q):(∃ b',Ending.returned (.bool b)=.returned (.bool b')∧(b'=true ↔ p))∧q:=⟨⟨b,rfl,h⟩,hq⟩
theorem yes_if {p:Prop} (h:p):true=true ↔ p:=⟨fun _=>h,fun _=>rfl⟩
theorem not_if {p:Prop} (h : ¬ p):false=true ↔ p:=⟨fun e=>by simp at e,fun e=>absurd e h⟩
theorem SameC.yes {u v:VT} (h:SameC u) (e:u=v) (c0 c1 c2 c3 c4 d0 d1 d2 d3 d4:Value) (w:World) (B:Nat) (hB:B≤w.heap.size) (h1:VAt w B u c0 c1 c2 c3 c4) (h2:VAt w B v d0 d1 d2 d3 d4) :
  Calls Tryz.prog 21 #[.agg #[c0,c1,c2,c3,c4],.agg #[d0,d1,d2,d3,d4]] w fun e w'=>e=.returned (.bool true)∧Below w.heap.size w w':=by
 refine (h v c0 c1 c2 c3 c4 d0 d1 d2 d3 d4 w B hB h1 h2).mono ?_
 rintro e' w' ⟨⟨b,rfl,hb⟩,hw⟩
 rw [hb.2 e]
 exact ⟨rfl,hw⟩
theorem SameC.no {u v:VT} (h:SameC u) (e : ¬ u=v) (c0 c1 c2 c3 c4 d0 d1 d2 d3 d4:Value) (w:World) (B:Nat) (hB:B≤w.heap.size) (h1:VAt w B u c0 c1 c2 c3 c4) (h2:VAt w B v d0 d1 d2 d3 d4) :
  Calls Tryz.prog 21 #[.agg #[c0,c1,c2,c3,c4],.agg #[d0,d1,d2,d3,d4]] w fun e w'=>e=.returned (.bool false)∧Below w.heap.size w w':=by
 refine (h v c0 c1 c2 c3 c4 d0 d1 d2 d3 d4 w B hB h1 h2).mono ?_
 rintro e' w' ⟨⟨b,rfl,hb⟩,hw⟩
 have:b=false:=by cases b;rfl;exact absurd (hb.1 rfl) e
 rw [this]
 exact ⟨rfl,hw⟩
def KE (w:World) (b O:Nat) (nm d0 d1 d2 d3 d4:Value) (b' O':Nat) (nm' f0 f1 f2 f3 f4:Value) (W:World):Prop:=
 W.cell? ⟨b,O,none⟩=some nm∧Five W b (O+1) d0 d1 d2 d3 d4∧W.cell? ⟨b',O',none⟩=some nm'∧Five W b' (O'+1) f0 f1 f2 f3 f4∧Below w.heap.size w W
theorem KE.next {w W W':World} {b O:Nat} {nm d0 d1 d2 d3 d4:Value} {b' O':Nat} {nm' f0 f1 f2 f3 f4:Value} (h:KE w b O nm d0 d1 d2 d3 d4 b' O' nm' f0 f1 f2 f3 f4 W) (hl:b < w.heap.size) (hl':b' < w.heap.size) (hb:Below W.heap.size W W'):KE w b O nm d0 d1 d2 d3 d4 b' O' nm' f0 f1 f2 f3 f4 W':=by
 obtain ⟨h1,h2,h3,h4,hB⟩:=h
 have g:=Nat.lt_of_lt_of_le hl hB.size
 have g':=Nat.lt_of_lt_of_le hl' hB.size
 exact ⟨(hb.cell (p:=⟨b,_,none⟩) g).trans h1,h2.below hb g,(hb.cell (p:=⟨b',_,none⟩) g').trans h3,h4.below hb g',hB.trans (hb.mono hB.size)⟩
theorem KE.written {w W:World} {b O:Nat} {nm d0 d1 d2 d3 d4:Value} {b' O':Nat} {nm' f0 f1 f2 f3 f4:Value} (h:KE w b O nm d0 d1 d2 d3 d4 b' O' nm' f0 f1 f2 f3 f4 W) :
  W.cell? ⟨b,O,none⟩=some nm∧W.cell? ⟨b,O+1,none⟩=some d0∧W.cell? ⟨b,O+1+1,none⟩=some d1∧W.cell? ⟨b,O+1+2,none⟩=some d2∧W.cell? ⟨b,O+1+3,none⟩=some d3∧W.cell? ⟨b,O+1+4,none⟩=some d4 ∧
  W.cell? ⟨b',O',none⟩=some nm'∧W.cell? ⟨b',O'+1,none⟩=some f0∧W.cell? ⟨b',O'+1+1,none⟩=some f1∧W.cell? ⟨b',O'+1+2,none⟩=some f2∧W.cell? ⟨b',O'+1+3,none⟩=some f3∧W.cell? ⟨b',O'+1+4,none⟩=some f4 ∧
  KE w b O nm d0 d1 d2 d3 d4 b' O' nm' f0 f1 f2 f3 f4 W:=
 ⟨h.1,h.2.1.1,h.2.1.2.1,h.2.1.2.2.1,h.2.1.2.2.2.1,h.2.1.2.2.2.2,h.2.2.1,h.2.2.2.1.1,h.2.2.2.1.2.1,h.2.2.2.1.2.2.1,h.2.2.2.1.2.2.2.1,h.2.2.2.1.2.2.2.2,h⟩
theorem memb_any (N:Nat) (H:∀ u,sizeV u≤N→SameC u):∀ m,sizeM m≤N→MembC m:=by
 intro m hm m' A A' c c' w B hB hl hl' h1 h2
 have H1:=Hd h1
 have H2:=Hd h2
 have HS:=Hd H
 have HB0:=Hd hB
 clear h1 h2 H hB
 by_cases hlen:m.len=m'.len
 · generalize hn:m.len=n at *
   have HN:=Hd hn
   have HN':=Hd hlen
   subst hlen
   clear hn
   have e0:((m'.len:Int) != (m'.len:Int))=false:=by simp
   go_enter Tryz.func55,Tryz.ntmps55
   go_wp2_with fail
   go_loopg [5] m'.len (fun g i wx=>∃ q:Nat,q+g=m'.len∧i=.int .i64 q∧Below w.heap.size w wx∧Aside (AgreeM m m' q))
   case atStart=>exact ⟨0,by omega,rfl,Below.refl _ _,vaside (fun j hj=>by omega)⟩
   case round =>
    obtain ⟨q,hq,rfl,hb,HA⟩:=hrel
    have HBB:=Hd hb
    clear hb
    cases gk with
    | zero =>
      obtain rfl:q=m'.len:=by omega
      have hE:Hid (m=m'):=Hd (VM.ext HN.out (by rw [HN.out];exact HA.out))
      clear HA
      go_wp2_with fail
      go_ret
      exact vsaid (yes_if hE.out) HBB.out
    | succ g =>
      have hqn:q < m'.len:=by omega
      have hqn':(q:Int) < (m'.len:Int):=by omega
      obtain ⟨⟨nm,v⟩,hv⟩:=VM.get_lt (l:=m) (j:=q) (by rw [HN.out];exact hqn)
      obtain ⟨⟨nm',v'⟩,hv'⟩:=VM.get_lt hqn
      have hvN:=sizeM_get hv
      obtain ⟨b,o,d0,d1,d2,d3,d4,rfl,hblt,hnm,hns,hF,hV⟩:=MAt.at (MAt.below (HBB.out.mono HB0.out) _ _ _ H1.out) hv
      obtain ⟨b',o',f0,f1,f2,f3,f4,rfl,hblt',hnm',hns',hF',hV'⟩:=MAt.at (MAt.below (HBB.out.mono HB0.out) _ _ _ H2.out) hv'
      rw [Nat.zero_add] at hF hnm hF' hnm'
      have hE:=Hd hv
      have hE':=Hd hv'
      clear hv hv'
      by_cases hnn:nm=nm'
      · subst hnn
        have e1:(nm.toList != nm.toList)=false:=by simp
        have e1':(nm.toList == nm.toList)=true:=by simp
        have HBW:Hid (b < w.heap.size):=Hd (Nat.lt_of_lt_of_le hblt HB0.out)
        have HBW':Hid (b' < w.heap.size):=Hd (Nat.lt_of_lt_of_le hblt' HB0.out)
        have hE0:KE w b (o+q*6) (.string nm) d0 d1 d2 d3 d4 b' (o'+q*6) (.string nm) f0 f1 f2 f3 f4 wr:=⟨hnm,hF,hnm',hF',HBB.out⟩
        obtain ⟨g0,g1,g2,g3,g4⟩:=hF
        obtain ⟨g5,g6,g7,g8,g9⟩:=hF'
        by_cases hvv:v=v'
        · subst hvv
          have C:=fun (wx:World) (hx:Below wr.heap.size wr wx)=>Hd ((HS.out v (by omega)).yes rfl d0 d1 d2 d3 d4 f0 f1 f2 f3 f4 wx B (Nat.le_trans HB0.out (Nat.le_trans HBB.out.size hx.size)) (VAt.below (hx.mono (Nat.le_trans HB0.out HBB.out.size)) _ _ _ _ _ _ hV) (VAt.below (hx.mono (Nat.le_trans HB0.out HBB.out.size)) _ _ _ _ _ _ hV'))
          have hnx:Hid (AgreeM m m' (q+1)):=Hd (AgreeM.next HA.out hE.out hE'.out)
          clear hV hV' HA hvN hblt hblt'
          go_wp2_with fail
          go_region_held3 (fun w'=>w'.cell? ⟨b,o+q*6,none⟩=some (.string nm)∧w'.cell? ⟨b,o+q*6+1,none⟩=some d0∧w'.cell? ⟨b,o+q*6+1+1,none⟩=some d1∧w'.cell? ⟨b,o+q*6+1+2,none⟩=some d2∧w'.cell? ⟨b,o+q*6+1+3,none⟩=some d3∧w'.cell? ⟨b,o+q*6+1+4,none⟩=some d4∧w'.cell? ⟨b',o'+q*6,none⟩=some (.string nm)∧w'.cell? ⟨b',o'+q*6+1,none⟩=some f0∧w'.cell? ⟨b',o'+q*6+1+1,none⟩=some f1∧w'.cell? ⟨b',o'+q*6+1+2,none⟩=some f2∧w'.cell? ⟨b',o'+q*6+1+3,none⟩=some f3∧w'.cell? ⟨b',o'+q*6+1+4,none⟩=some f4∧KE w b (o+q*6) (.string nm) d0 d1 d2 d3 d4 b' (o'+q*6) (.string nm) f0 f1 f2 f3 f4 w')
           (first
            | exact KE.written (KE.next hE0 HBW.out HBW'.out (Below.drew (Below.refl _ _)))
            | exact KE.written ((KE.next hE0 HBW.out HBW'.out (Below.drew (Below.refl _ _))).next HBW.out HBW'.out (by assumption))
            | exact KE.written (KE.next hE0 HBW.out HBW'.out (by assumption))
            | exact KE.written (KE.next (by assumption) HBW.out HBW'.out (by assumption))
            | go_keep)
           ((first|(go_at_call 21;refine (C _ (by first|exact Below.drew (Below.refl _ _)|exact Below.refl _ _|assumption)).out.mono ?_;rintro e w' ⟨rfl,hb⟩)))
          all_goals
           have HKM:KE w b (o+q*6) (.string nm) d0 d1 d2 d3 d4 b' (o'+q*6) (.string nm) f0 f1 f2 f3 f4 w':=And.right (And.right (And.right (And.right (And.right (And.right (And.right (And.right (And.right (And.right (And.right (And.right (by assumption))))))))))))
           have HKB:=Hd HKM.2.2.2.2
           clear HKM hE0 C g0 g1 g2 g3 g4 g5 g6 g7 g8 g9
           go_wp2_with fail
           go_roundg g
           case measure=>omega
           case rel=>exact ⟨q+1,by omega,by go_num,HKB.out,vaside hnx.out⟩
        · have C:=fun (wx:World) (hx:Below wr.heap.size wr wx)=>Hd ((HS.out v (by omega)).no hvv d0 d1 d2 d3 d4 f0 f1 f2 f3 f4 wx B (Nat.le_trans HB0.out (Nat.le_trans HBB.out.size hx.size)) (VAt.below (hx.mono (Nat.le_trans HB0.out HBB.out.size)) _ _ _ _ _ _ hV) (VAt.below (hx.mono (Nat.le_trans HB0.out HBB.out.size)) _ _ _ _ _ _ hV'))
          have hno:Hid (¬ m=m'):=Hd (fun h=>by
           subst h
           have:=hE.out.symm.trans hE'.out
           simp only [Option.some.injEq,Prod.mk.injEq] at this
           exact hvv this.2)
          clear hV hV' HA hvN hblt hblt' hvv
          go_wp2_with fail
          go_region_held3 (fun w'=>w'.cell? ⟨b,o+q*6,none⟩=some (.string nm)∧w'.cell? ⟨b,o+q*6+1,none⟩=some d0∧w'.cell? ⟨b,o+q*6+1+1,none⟩=some d1∧w'.cell? ⟨b,o+q*6+1+2,none⟩=some d2∧w'.cell? ⟨b,o+q*6+1+3,none⟩=some d3∧w'.cell? ⟨b,o+q*6+1+4,none⟩=some d4∧w'.cell? ⟨b',o'+q*6,none⟩=some (.string nm)∧w'.cell? ⟨b',o'+q*6+1,none⟩=some f0∧w'.cell? ⟨b',o'+q*6+1+1,none⟩=some f1∧w'.cell? ⟨b',o'+q*6+1+2,none⟩=some f2∧w'.cell? ⟨b',o'+q*6+1+3,none⟩=some f3∧w'.cell? ⟨b',o'+q*6+1+4,none⟩=some f4∧KE w b (o+q*6) (.string nm) d0 d1 d2 d3 d4 b' (o'+q*6) (.string nm) f0 f1 f2 f3 f4 w')
           (first
            | exact KE.written (KE.next hE0 HBW.out HBW'.out (Below.drew (Below.refl _ _)))
            | exact KE.written ((KE.next hE0 HBW.out HBW'.out (Below.drew (Below.refl _ _))).next HBW.out HBW'.out (by assumption))
            | exact KE.written (KE.next hE0 HBW.out HBW'.out (by assumption))
            | exact KE.written (KE.next (by assumption) HBW.out HBW'.out (by assumption))
            | go_keep)
           ((first|(go_at_call 21;refine (C _ (by first|exact Below.drew (Below.refl _ _)|exact Below.refl _ _|assumption)).out.mono ?_;rintro e w' ⟨rfl,hb⟩)))
          all_goals
           have HKM:KE w b (o+q*6) (.string nm) d0 d1 d2 d3 d4 b' (o'+q*6) (.string nm) f0 f1 f2 f3 f4 w':=And.right (And.right (And.right (And.right (And.right (And.right (And.right (And.right (And.right (And.right (And.right (And.right (by assumption))))))))))))
           have HKB:=Hd HKM.2.2.2.2
           clear HKM hE0 C g0 g1 g2 g3 g4 g5 g6 g7 g8 g9
           go_wp2_with fail
           go_ret
           exact vsaid (not_if hno.out) HKB.out
      · have hne:nm.toList ≠ nm'.toList:=fun h=>hnn (by
          rw [ByteArray.toList_eq,ByteArray.toList_eq] at h
          exact ByteArray.ext (Array.toList_inj.1 h))
        have e1:(nm.toList != nm'.toList)=true:=by simpa using hne
        have e1':(nm.toList == nm'.toList)=false:=by simpa using hne
        have hno:Hid (¬ m=m'):=Hd (fun h=>by
          subst h
          have:=hE.out.symm.trans hE'.out
          simp only [Option.some.injEq,Prod.mk.injEq] at this
          exact hnn this.1)
        clear hne hnn HA hV hV' hF hF'
        go_wp2_with fail
        go_quiet (fail)
        go_wp2
        go_ret
        exact vsaid (not_if hno.out) (vbelow_draws HBB.out _)
 · have hno:Hid (¬ m=m'):=Hd (fun h=>hlen (by rw [h]))
   have e0:((m.len:Int) != (m'.len:Int))=true:=by simp;omega
   clear H1 H2 HS hlen
   go_enter Tryz.func55,Tryz.ntmps55
   go_wp2
   go_ret
   exact vsaid (not_if hno.out) (Below.refl _ _)
end Go.Proofs.YtpkmbhnikilihaaGreatDoor
