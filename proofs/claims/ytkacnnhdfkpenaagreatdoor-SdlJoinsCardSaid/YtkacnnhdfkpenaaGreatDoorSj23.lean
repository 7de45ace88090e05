/- The walks of the landed blank and bare. They only read. -/
import Derived.Outline
import Derived.Shelf.Strings.OnBuilder
import Derived.Test.YtkacnnhdfkpenaaGreatDoorSj22
set_option maxRecDepth 100000
set_option maxHeartbeats 1000000
namespace Go.Proofs.YtkacnnhdfkpenaaGreatDoor.Blk
open Go.RowKit
theorem blankB_int (c:UInt8):blankB c=(((c.toNat:Int) == 9) || ((c.toNat:Int) == 32)):=by
 unfold blankB
 by_cases h9:c=9
 · subst h9;rfl
 by_cases h32:c=32
 · subst h32;rfl
 have e9:((c.toNat:Int) == 9)=false:=beq_ne (ne_lit h9)
 have e32:((c.toNat:Int) == 32)=false:=beq_ne (ne_lit h32)
 rw [e9,e32]
 simp [h9,h32]
theorem pblank_any (c:UInt8) (w:World):Calls Tryz.prog 322 #[.int .u8 (c.toNat:Int)] w fun e w'=>e=.returned (.bool (blankB c))∧w=w':=by
 have H:=Hd (blankB_int c)
 by_cases h9:c=9
 · subst h9
   go_enter Tryz.func322,Tryz.ntmps322
   go_wp2
   go_ret
   exact ⟨rfl,rfl⟩
 · have n9:((c.toNat:Int) == 9)=false:=beq_ne (ne_lit h9)
   by_cases h32:c=32
   · subst h32
     go_enter Tryz.func322,Tryz.ntmps322
     go_wp2
     go_ret
     exact ⟨rfl,rfl⟩
   · have n32:((c.toNat:Int) == 32)=false:=beq_ne (ne_lit h32)
     have hf:Hid (blankB c=false):=Hd (by rw [H.out,n9,n32];rfl)
     go_enter Tryz.func322,Tryz.ntmps322
     go_wp2
     go_ret
     exact ⟨ret_bool hf.out.symm,rfl⟩
theorem pbare_any (s:ByteArray) (w:World) (hs:s.size≤100000):Calls Tryz.prog 294 #[.string s] w fun e w'=>e=.returned (.bool (!inkB s.data.toList))∧w=w':=by
 have HL:Hid (s.data.toList.length=s.size):=Hd Array.length_toList
 go_enter Tryz.func294,Tryz.ntmps294
 go_wp2_with fail
 go_loopg [6] s.size (fun g i wx=>∃ k:Nat,k+g=s.size∧i=.int .i64 k∧Aside ((s.data.toList.take k).all blankB=true)∧w=wx)
 case atStart=>exact ⟨0,by omega,rfl,Aside.intro (by simp),rfl⟩
 case round =>
  obtain ⟨k,hk,rfl,H,rfl⟩:=hrel
  cases gk with
  | zero =>
    obtain rfl:k=s.size:=by omega
    have he:=H.out
    rw [List.take_of_length_le (by rw [HL.out];omega)] at he
    have h2:=Hd (lead_end he).2
    clear he H
    go_wp2_with fail
    go_ret
    exact ⟨ret_bool (by rw [h2.out];rfl),rfl⟩
  | succ g =>
    have hlt:k < s.size:=by omega
    have hlt':(k:Int) < (s.size:Int):=by omega
    have HB:=Hd (fun w=>pblank_any s[k] w)
    cases hb:blankB s[k]
    · have hT:=Hd (lead_at H.out (by rw [List.getElem?_eq_getElem (by rw [HL.out];exact hlt)];rfl) hb).2
      have hB:=Hd hb
      clear H hb
      go_wp2_with fail
      refine (HB.out _).mono ?_
      rintro e w1 ⟨rfl,rfl⟩
      rw [hB.out]
      go_wp2_with fail
      go_ret
      exact ⟨ret_bool (by rw [hT.out];rfl),rfl⟩
    · have hT:=Hd (blank_more hlt H.out hb)
      have hB:=Hd hb
      clear H hb
      go_wp2_with fail
      refine (HB.out _).mono ?_
      rintro e w1 ⟨rfl,rfl⟩
      rw [hB.out]
      go_wp2_with fail
      go_roundg g
      case measure=>omega
      case rel=>exact ⟨k+1,by omega,by go_num,Aside.intro hT.out,rfl⟩
theorem pindent_any (A:Option Addr) (n c:Nat) (xs:List ByteArray) (w:World) (hn:n≤100000) (hz:StrsAt w w.heap.size A n xs) (hx:∀ x ∈ xs,x.size≤100000) :
  Calls Tryz.prog 293 #[.slice A n c] w fun e w'=>e=.returned (.int .i64 (indentL (bytesL xs)))∧w=w':=by
 have HZ:=Hd hz
 have HX:=Hd hx
 clear hz hx
 go_enter Tryz.func293,Tryz.ntmps293
 go_wp2
 go_step3
 go_wp2
 go_step3
 go_wp2
 go_loopg [3,9] n (fun g out i wx=>∃ k:Nat,k+g=n∧i=.int .i64 k∧out=.int .i64 (indTo xs k)∧w=wx)
 case atStart=>exact ⟨0,by omega,rfl,by simp [indTo],rfl⟩
 case round =>
  obtain ⟨k,hkg,rfl,rfl,rfl⟩:=hrel
  have hbd:=indTo_bd xs HX.out k
  have hbd1:=hbd.1
  have hbd2:=hbd.2
  clear hbd
  cases gk with
  | zero =>
    obtain rfl:k=n:=by omega
    have hfin:=Hd (indTo_all (xs:=xs) (k:=k) (by rw [HZ.out.1];omega))
    go_wp2_with fail
    try rw [Exit.noGoto_ret]
    go_ret
    exact ⟨ret_int hfin.out,rfl⟩
  | succ g =>
    have hlt':(k:Int) < (n:Int):=by omega
    obtain ⟨x,hxk⟩:∃ x,xs[k]? = some x:=⟨_,List.getElem?_eq_getElem (by rw [HZ.out.1];omega)⟩
    obtain ⟨b,o,rfl,hblt,hcell⟩:=HZ.out.2 k x hxk
    have hxs:x.size≤100000:=HX.out x (List.mem_of_getElem? hxk)
    have hk0:(0:Int)≤(k:Int):=by omega
    by_cases hk:k=0
    · have hs:Hid (indTo xs (k+1)=indTo xs k):=Hd (by simp [indTo,hk])
      have hkeq:((k:Int) == 0)=true:=by simp;omega
      clear hxk hk
      generalize indTo xs k=v at *
      go_wp2_with fail
      go_roundg g
      case measure=>omega
      case rel=>exact ⟨k+1,by omega,by go_num,by rw [hs.out],rfl⟩
    · have hk1 : 1≤k:=by omega
      have hkne:((k:Int) == 0)=false:=by simp;omega
      have hs:=Hd (indTo_succ hk1 hxk)
      have HXL:Hid (x.data.toList.length=x.size):=Hd Array.length_toList
      clear hxk hk
      generalize indTo xs k=v at *
      go_wp2_with fail
      go_loopg [3,18] x.size (fun g2 out i wx=>∃ j:Nat,j+g2=x.size∧i=.int .i64 j∧out=.int .i64 v∧Aside ((x.data.toList.take j).all blankB=true)∧w=wx)
      case atStart=>exact ⟨0,by omega,rfl,rfl,Aside.intro (by simp),rfl⟩
      case round =>
       obtain ⟨j,hj,rfl,rfl,H,rfl⟩:=hrel
       cases gk with
       | zero =>
         obtain rfl:j=x.size:=by omega
         have he:=H.out
         rw [List.take_of_length_le (by rw [HXL.out];omega)] at he
         have h2:=(lead_end he).2
         have hst:Hid (indTo xs (k+1)=v):=Hd (by rw [hs.out];unfold stepI;rw [if_neg (by rw [h2];simp)])
         clear he H h2
         go_wp2_with fail
         go_roundg g
         case measure=>omega
         case rel=>exact ⟨k+1,by omega,by go_num,by rw [hst.out],rfl⟩
       | succ g2 =>
         have hlt:j < x.size:=by omega
         have hltj:(j:Int) < (x.size:Int):=by omega
         have hj0:(0:Int)≤(j:Int):=by omega
         have HB:=Hd (fun w=>pblank_any x[j] w)
         cases hb:blankB x[j]
         · have hx2:=lead_at H.out (by rw [List.getElem?_eq_getElem (by rw [HXL.out];exact hlt)];rfl) hb
           have hB:=Hd hb
           have hx21:=Hd hx2.1
           have hx22:=Hd hx2.2
           clear H hb hx2
           by_cases hv:v < 0
           · have hst:Hid (indTo xs (k+1)=(j:Int)):=Hd (by rw [hs.out];unfold stepI;rw [hx21.out,if_pos ⟨hx22.out,.inl hv⟩])
             go_wp2_with fail
             refine (HB.out _).mono ?_
             rintro e w1 ⟨rfl,rfl⟩
             rw [hB.out]
             go_wp2_with fail
             go_roundg g
             case measure=>omega
             case rel=>exact ⟨k+1,by omega,by go_num,by rw [hst.out],rfl⟩
           · have e1:decide (v < 0)=false:=by simp;omega
             by_cases hmv:(j:Int) < v
             · have hst:Hid (indTo xs (k+1)=(j:Int)):=Hd (by rw [hs.out];unfold stepI;rw [hx21.out,if_pos ⟨hx22.out,.inr hmv⟩])
               go_wp2_with fail
               refine (HB.out _).mono ?_
               rintro e w1 ⟨rfl,rfl⟩
               rw [hB.out]
               go_wp2_with fail
               go_roundg g
               case measure=>omega
               case rel=>exact ⟨k+1,by omega,by go_num,by rw [hst.out],rfl⟩
             · have e2:decide ((j:Int) < v)=false:=by simp;omega
               have hst:Hid (indTo xs (k+1)=v):=Hd (by rw [hs.out];unfold stepI;rw [hx21.out,if_neg (by rintro ⟨_,h|h⟩<;>omega)])
               go_wp2_with fail
               refine (HB.out _).mono ?_
               rintro e w1 ⟨rfl,rfl⟩
               rw [hB.out]
               go_wp2_with fail
               go_roundg g
               case measure=>omega
               case rel=>exact ⟨k+1,by omega,by go_num,by rw [hst.out],rfl⟩
         · have hT:=Hd (blank_more hlt H.out hb)
           have hB:=Hd hb
           clear H hb
           go_wp2_with fail
           refine (HB.out _).mono ?_
           rintro e w1 ⟨rfl,rfl⟩
           rw [hB.out]
           go_wp2_with fail
           go_roundg g2
           case measure=>omega
           case rel=>exact ⟨j+1,by omega,by go_num,rfl,Aside.intro hT.out,rfl⟩
open Go.Shelf Go.RowKit
def joinRen:Go.Shelf.Ren:=⟨fun|156=>295|165=>323|166=>77|169=>78|240=>141|241=>336|276=>218|277=>348|n=>n,fun|0=>0|3=>3|4=>4|5=>5|9=>9|20=>20|31=>64|37=>116|70=>115|72=>118|75=>121|76=>124|80=>126|127=>191|164=>241|n=>n,fun|n=>n⟩
theorem joinLays:Go.Proofs.Lays.n156 Tryz.prog joinRen:={
 mixed:=by kernel_rfl
 f156:=Tryz.func295.trans (congrArg some (by kernel_rfl))
 f165:=Tryz.func323.trans (congrArg some (by kernel_rfl))
 f166:=Tryz.func77.trans (congrArg some (by kernel_rfl))
 f169:=Tryz.func78.trans (congrArg some (by kernel_rfl))
 f240:=Tryz.func141.trans (congrArg some (by kernel_rfl))
 f241:=Tryz.func336.trans (congrArg some (by kernel_rfl))
 f276:=Tryz.func218.trans (congrArg some (by kernel_rfl))
 f277:=Tryz.func348.trans (congrArg some (by kernel_rfl))
 t0:=Tryz.underlying0
 a0:=Tryz.isAgg0
 z0:=Tryz.sizeOf0
 v0:=Tryz.zeroValue0
 t3:=Tryz.underlying3
 a3:=Tryz.isAgg3
 z3:=Tryz.sizeOf3
 v3:=Tryz.zeroValue3
 t4:=Tryz.underlying4
 a4:=Tryz.isAgg4
 z4:=Tryz.sizeOf4
 v4:=Tryz.zeroValue4
 t9:=Tryz.underlying9
 a9:=Tryz.isAgg9
 z9:=Tryz.sizeOf9
 v9:=Tryz.zeroValue9
 t20:=Tryz.underlying20
 a20:=Tryz.isAgg20
 z20:=Tryz.sizeOf20
 v20:=Tryz.zeroValue20
 t31:=Tryz.underlying64
 a31:=Tryz.isAgg64
 z31:=Tryz.sizeOf64
 v31:=Tryz.zeroValue64
 t37:=Tryz.underlying116
 a37:=Tryz.isAgg116
 z37:=Tryz.sizeOf116
 v37:=Tryz.zeroValue116
 t70:=Tryz.underlying115
 a70:=Tryz.isAgg115
 z70:=Tryz.sizeOf115
 v70:=Tryz.zeroValue115
 t72:=Tryz.underlying118
 a72:=Tryz.isAgg118
 z72:=Tryz.sizeOf118
 v72:=Tryz.zeroValue118
 t75:=Tryz.underlying121
 a75:=Tryz.isAgg121
 z75:=Tryz.sizeOf121
 v75:=Tryz.zeroValue121
 t76:=Tryz.underlying124
 a76:=Tryz.isAgg124
 z76:=Tryz.sizeOf124
 v76:=Tryz.zeroValue124
 t127:=Tryz.underlying191
 a127:=Tryz.isAgg191
 z127:=Tryz.sizeOf191
 v127:=Tryz.zeroValue191
 t164:=Tryz.underlying241
 a164:=Tryz.isAgg241
 z164:=Tryz.sizeOf241
 v164:=Tryz.zeroValue241 }
theorem joinExtra:Builder.Extra Tryz.prog joinRen:={
 sizeBuilder:=by kernel_rfl
 liesBuilder:=by kernel_rfl
 t5:=Tryz.underlying5
 a5:=Tryz.isAgg5
 z5:=Tryz.sizeOf5
 v5:=Tryz.zeroValue5
 infoByte:=by kernel_rfl
 cellsByte:=by kernel_rfl
 sizeByte:=by kernel_rfl
 neB5:=by decide }
theorem pjoin_many (bk o c:Nat) (xs:List ByteArray) (sep:ByteArray) (w:World) (hcells:∀ (j:Nat) x,xs[j]? = some x→w.cell? ⟨bk,o+j,none⟩=some (.string x)) (hbk:bk < w.heap.size) (hN:xs.length≤140737488355328) (hcap:xs.length≤c) (hlen:(Lib.join (xs.map (·.data.toList)) sep.data.toList).length≤140737488355328) :
  Calls Tryz.prog 295 #[.slice (some ⟨bk,o,none⟩) xs.length c,.string sep] w fun e w'=>e=.returned (.string ⟨(Lib.join (xs.map (·.data.toList)) sep.data.toList).toArray⟩)∧Below w.heap.size w w':=
 Any.strings_Join joinLays joinExtra bk o c xs sep w hcells hbk hN hcap hlen
theorem pjoin_none (a:Option Addr) (c:Nat) (sep:ByteArray) (w:World) :
  Calls Tryz.prog 295 #[.slice a 0 c,.string sep] w fun e w'=>e=.returned (.string ⟨#[]⟩)∧w'=w:=
 Any.strings_Join_none joinLays joinExtra a c sep w
def sumL:List (List UInt8)→Nat
 | []=>0
 | x :: t=>x.length+sumL t
theorem joinTen_len:∀ ls:List (List UInt8),(joinTen ls).length+1=sumL ls+ls.length+(if ls=[] then 1 else 0):=by
 intro ls
 induction ls with
 | nil=>rfl
 | cons x t ih =>
   cases t with
   | nil=>simp [joinTen,sumL]
   | cons y t =>
     rw [if_neg (by simp)] at ih ⊢
     show (x++10 :: joinTen (y :: t)).length+1=_
     rw [List.length_append,List.length_cons]
     show _=x.length+sumL (y :: t)+((y :: t).length+1)+0
     omega
theorem sumL_append (a b:List (List UInt8)):sumL (a++b)=sumL a+sumL b:=by
 induction a with
 | nil=>simp [sumL]
 | cons x t ih=>rw [List.cons_append];simp only [sumL];omega
theorem infix_sum {a b:List (List UInt8)} (h:a <:+: b):sumL a+a.length≤sumL b+b.length:=by
 obtain ⟨p,q,rfl⟩:=h
 rw [sumL_append,sumL_append,List.length_append,List.length_append]
 omega
theorem trim_infix (ls:List (List UInt8)):trimL ls <:+: ls:=by
 have h1:trimL ls <+: frontL ls:=by
  have:=List.dropWhile_suffix (l:=(frontL ls).reverse) (fun x=>!inkB x)
  have h2:=List.reverse_prefix.2 this
  rw [List.reverse_reverse] at h2
  exact h2
 have h2:frontL ls <:+ ls:=List.dropWhile_suffix _
 exact h1.isInfix.trans h2.isInfix
theorem cut_sum (n:Nat) (ls:List (List UInt8)):sumL (cutL n ls)≤sumL ls∧(cutL n ls).length=ls.length:=by
 cases ls with
 | nil=>exact ⟨Nat.le_refl _,rfl⟩
 | cons x t =>
   simp only [cutL,sumL,List.length_cons,List.length_map,and_true]
   have:sumL (t.map (List.drop n))≤sumL t:=by
    induction t with
    | nil=>exact Nat.le_refl _
    | cons y t ih=>simp only [List.map_cons,sumL,List.length_drop];omega
   omega
theorem after_len {l t:List UInt8} (h:afterL l=some t):(firstL l).length+1+t.length≤l.length:=by
 have e:(firstL l).length+(l.dropWhile fun c=>!eolB c).length=l.length:=by
  unfold firstL
  rw [← List.length_append,List.takeWhile_append_dropWhile]
 have : t.length < (l.dropWhile fun c=>!eolB c).length:=by
  unfold afterL at h
  generalize l.dropWhile (fun c=>!eolB c)=r at *
  split at h
  · cases h
  · split at h
    · split at h
      · split at h
        · cases h;simp only [List.length_cons];omega
        · cases h;simp only [List.length_cons];omega
      · cases h;simp
    · cases h;simp
 omega
theorem lines_sum:∀ (n:Nat) (l:List UInt8),l.length < n→sumL (linesL l)+(linesL l).length≤l.length+1:=by
 intro n
 induction n with
 | zero=>intro l h;omega
 | succ n ih =>
   intro l hl
   have hf:(firstL l).length≤l.length:=by
     unfold firstL
     have e:(l.takeWhile fun c=>!eolB c).length+(l.dropWhile fun c=>!eolB c).length=l.length:=by rw [← List.length_append,List.takeWhile_append_dropWhile]
     omega
   rw [linesL_eq]
   cases ha:afterL l with
   | none=>simp only [sumL,List.length_cons,List.length_nil];omega
   | some t =>
     have hr:=after_len ha
     have:=ih t (by omega)
     simp only [sumL,List.length_cons]
     omega
theorem value_len (raw:List UInt8):(valueL raw).length≤raw.length:=by
 have h1:=lines_sum _ raw (Nat.lt_succ_self _)
 have h2:=cut_sum (max (indentL (linesL raw)) 0).toNat (linesL raw)
 have h3:=infix_sum (trim_infix (cutL (max (indentL (linesL raw)) 0).toNat (linesL raw)))
 have h4:=joinTen_len (shownL raw)
 unfold valueL
 by_cases hs:shownL raw=[]
 · rw [hs];simp [joinTen]
 · rw [if_neg hs] at h4
   have h3':sumL (shownL raw)+(shownL raw).length≤sumL (cutL (max (indentL (linesL raw)) 0).toNat (linesL raw))+(cutL (max (indentL (linesL raw)) 0).toNat (linesL raw)).length:=h3
   omega
def gapL (n:Nat):List UInt8:=List.replicate n 32
theorem cutB_zero (k:Nat) (xs:List ByteArray):cutB 0 k xs=xs:=by
 apply List.ext_getElem?
 intro j
 rw [cutB_get]
 cases xs[j]? with
 | none=>rfl
 | some x =>
   simp only [Option.map_some]
   split
   · congr 1;unfold cutS;rw [Nat.zero_min];exact ByteArray.extract_zero_size
   · rfl
theorem drop_take_get {ys:List ByteArray} {f n j:Nat} {x:ByteArray} (h:((ys.drop f).take n)[j]? = some x):ys[f+j]? = some x:=by
 rw [List.getElem?_take] at h
 split at h
 · rw [List.getElem?_drop] at h;exact h
 · cases h
theorem join_ten:∀ ls:List (List UInt8),Lib.join ls [10]=joinTen ls:=by
 intro ls
 induction ls with
 | nil=>rfl
 | cons x t ih =>
   cases t with
   | nil=>exact Lib.join_one x [10]
   | cons y t =>
     rw [Lib.join_cons]
     show _=x++10 :: joinTen (y :: t)
     rw [← ih,Lib.join_cons]
     simp [Lib.joinTail]
theorem pvalue_any (s:ByteArray) (w:World) (hs:s.size≤13000) :
  Calls Tryz.prog 254 #[.string s] w fun e w'=>e=.returned (.string ⟨(valueL s.data.toList).toArray⟩)∧Below w.heap.size w w':=by
 have HR:=Hd (plines_any s w hs)
 go_enter Tryz.func254,Tryz.ntmps254
 go_wp2_with fail
 refine HR.out.mono ?_
 rintro e w1 ⟨A,cap,rfl,hown,hb⟩
 have hroom:=lines_room (s.data.toList.length+1) s.data.toList (by omega)
 rw [← Lib.size_eq] at hroom
 have hxs:∀ x ∈ linesB s.data.toList,x.size≤13000:=by
  intro x hx
  obtain ⟨l,hl,rfl⟩:=List.mem_map.1 hx
  have:=hroom.2.1 l hl
  show l.length≤_
  omega
 have hN:(linesB s.data.toList).length≤13001:=by unfold linesB;rw [List.length_map];omega
 have hN1:1≤(linesB s.data.toList).length:=by
  unfold linesB
  rw [List.length_map]
  have:=linesL_ne s.data.toList
  cases h:linesL s.data.toList with
  | nil=>exact absurd h this
  | cons _ _=>simp
 clear hroom
 obtain ⟨g0,rfl,hbg,hgl,hcap⟩:=strs_some hown (by omega)
 have HI:=Hd (pindent_any (some ⟨g0,0,none⟩) (linesB s.data.toList).length cap (linesB s.data.toList) w1 (by omega) (strs_of_own hown).2 (fun x hx=>by have:=hxs x hx;omega))
 have hib:=indTo_bd _ (fun x hx=>by have:=hxs x hx;omega) (linesB s.data.toList).length
 rw [indTo_all (Nat.le_refl _)] at hib
 have HVAL:Hid (valueL s.data.toList=joinTen (trimL (cutL (max (indentL (bytesL (linesB s.data.toList))) 0).toNat (bytesL (linesB s.data.toList))))):=Hd (by rw [linesB_bytes];rfl)
 generalize linesB s.data.toList=xs at *
 generalize hv:indentL (bytesL xs)=v at *
 have hib1:=hib.1
 have hib2:=hib.2
 have HEX:=Hd hxs
 have HB:=Hd hb
 clear hxs hv hib hb HR
 go_upto_if 13 with (fail)
 refine HI.out.mono ?_
 rintro e w2 ⟨rfl,rfl⟩
 obtain ⟨tst,hd⟩:∃ t:Bool,decide (0 < v)=t:=⟨_,rfl⟩
 go_upto_if 13 with (fail)
 have HD:=Hd hd
 clear hd
 obtain ⟨M,hM⟩:∃ M,(max v 0).toNat=M:=⟨_,rfl⟩
 have hm1:M≤100000:=by omega
 rw [hM] at HVAL
 have HM:=Hd hM
 clear hM
 go_cut [3] (fun l wx=>l=.slice (some ⟨g0,0,none⟩) xs.length cap∧wx.ownsRow w.heap.size 9 1 (.slice (some ⟨g0,0,none⟩) xs.length cap) xs.length ((cutB M xs.length xs).map Value.string)∧Below w.heap.size w wx)
 case first =>
  cases tst
  · obtain rfl:M=0:=by have h1:=HM.out;have h2:=of_decide_eq_false HD.out;omega
    go_wp2_with fail
    go_meet
    exact ⟨rfl,by rw [cutB_zero];exact hown,HB.out⟩
  · have hv0:=of_decide_eq_true HD.out
    obtain ⟨m,rfl⟩:∃ m:Nat,v=m:=⟨v.toNat,by omega⟩
    obtain rfl:m=M:=by have:=HM.out;omega
    clear HI hib1 hib2 HM HD
    go_wp2_with fail
    go_loopg [5] (xs.length - 1) (fun g i wx=>∃ k:Nat,1≤k∧k+g=xs.length∧i=.int .i64 k∧wx.ownsRow w.heap.size 9 1 (.slice (some ⟨g0,0,none⟩) xs.length cap) xs.length ((cutB m k xs).map Value.string)∧Below w.heap.size w wx)
    case atStart=>exact ⟨1,by omega,by omega,rfl,by rw [cutB_start];exact hown,HB.out⟩
    case round =>
      obtain ⟨k,hk1,hk,rfl,hown,hb⟩:=hrel
      cases gk with
      | succ g =>
        have hlt:k < xs.length:=by omega
        have hlt':(k:Int) < (xs.length:Int):=by omega
        have hk0:(0:Int)≤(k:Int):=by omega
        obtain ⟨x,hx⟩:∃ x,xs[k]? = some x:=⟨_,List.getElem?_eq_getElem hlt⟩
        have hget:(cutB m k xs)[k]? = some x:=by
          rw [cutB_get,hx]
          simp only [Option.map_some]
          rw [if_neg (by omega)]
        have c1:wr.cell? ⟨g0,k,none⟩=some (.string x):=by
          rw [World.ownsRow.cellAt hown k (by omega),List.getElem?_map,hget];rfl
        have f1:wr.frozen? ⟨g0,k,none⟩=false:=World.ownsRow.frozenAt hown k
        have hxs:x.size≤13000:=HEX.out x (List.mem_of_getElem? hx)
        have HO:=Hd (World.ownsRow.stored hown k (.string (cutS m x)))
        have HS:=Hd (cutB_set (m:=m) hk1 hx)
        have HB2:=Hd hb
        have hcx:Hid (cutS m x=x.extract (min m x.size) x.size):=Hd rfl
        clear hown hb hx hget HB
        obtain ⟨K,hKd⟩:∃ K,min m x.size=K:=⟨_,rfl⟩
        have hK:min (m:Int) (x.size:Int)=(K:Int):=by omega
        have hKs:(K:Int)≤(x.size:Int):=by omega
        have hK0:(0:Int)≤(K:Int):=by omega
        have HKd:=Hd hKd
        clear hKd
        go_wp2_with fail
        go_still_tail 15,(by kernel_rfl)
        change wpList _ _ _ _ _ wr.drew
        go_wp2
        go_roundg g
        case measure=>omega
        case rel =>
          refine ⟨k+1,by omega,by omega,by go_num,?_,(HB2.out.drew).setCell hbg _⟩
          have e:((cutB m k xs).map Value.string).set k (.string (cutS m x))=(cutB m (k+1) xs).map Value.string:=by rw [← HS.out,List.map_set]
          rw [← e,hcx.out,HKd.out]
          rw [hcx.out,HKd.out] at HO
          exact HO.out.1.drew
      | zero =>
        obtain rfl:k=xs.length:=by omega
        go_wp2_with fail
        go_meet
        exact ⟨rfl,hown,hb⟩
 case rest =>
  obtain ⟨rfl,hown,hb⟩:=hcut
  clear HI hib1 hib2 HM HD
  have hyl:(cutB M xs.length xs).length=xs.length:=cutB_length _ _ _
  have hyb:=cutB_bytes M xs
  have hys:∀ y ∈ cutB M xs.length xs,y.size≤13000:=by
    intro y hy
    obtain ⟨j,hj⟩:=List.mem_iff_getElem?.1 hy
    rw [cutB_get] at hj
    obtain ⟨x,hx,rfl⟩:=Option.map_eq_some_iff.1 hj
    have:=HEX.out x (List.mem_of_getElem? hx)
    split
    · unfold cutS;rw [ByteArray.size_extract];omega
    · exact this
  have hval:Hid (valueL s.data.toList=joinTen (trimL (bytesL (cutB M xs.length xs)))):=Hd (by rw [HVAL.out,hyb])
  generalize cutB M xs.length xs=ys at *
  have hgc:g0 < wc.heap.size:=(hown.lt g0 rfl).2
  have HS:=Hd (strs_of_own' hown)
  have HYS:=Hd hys
  have HYL:=Hd hyl
  have HBB:=Hd hb
  clear hown hyb hys hyl hb HVAL HB
  generalize xs.length=N at *
  clear HEX
  go_upto_block 2 with (fail)
  go_cut [6] (fun fr wx=>∃ f:Nat,f≤N∧fr=.int .i64 f∧Aside (frontL (bytesL ys)=(bytesL ys).drop f)∧wc=wx)
  case first =>
    go_wp2_with fail
    go_loopg [6] N (fun g fr wx=>∃ f:Nat,f+g=N∧fr=.int .i64 f∧Aside (((bytesL ys).take f).all (fun l=>!inkB l)=true)∧wc=wx)
    case atStart=>exact ⟨0,by omega,rfl,Aside.intro (by simp),rfl⟩
    case round =>
      obtain ⟨f,hf,rfl,H,rfl⟩:=hrel
      cases gk with
      | zero =>
        obtain rfl:f=N:=by omega
        have hT:=Hd (front_end H.out (by unfold bytesL;rw [List.length_map,HYL.out];omega))
        clear H
        go_wp2_with fail
        go_meet
        exact ⟨_,by omega,rfl,Aside.intro (by rw [hT.out,List.drop_eq_nil_of_le (by unfold bytesL;rw [List.length_map,HYL.out];omega)]),rfl⟩
      | succ g =>
        have hlt:f < N:=by omega
        have hlt':(f:Int) < (N:Int):=by omega
        obtain ⟨y,hy⟩:∃ y,ys[f]? = some y:=⟨_,List.getElem?_eq_getElem (by rw [HYL.out];omega)⟩
        obtain ⟨b,o,e,_,hcell⟩:=HS.out.2 f y hy
        injection e with e
        injection e with e1 e2
        subst e1 e2
        rw [Nat.zero_add] at hcell
        have HBk:=Hd (pbare_any y wc (by have:=HYS.out y (List.mem_of_getElem? hy);omega))
        have hyb:(bytesL ys)[f]? = some y.data.toList:=by unfold bytesL;rw [List.getElem?_map,hy];rfl
        cases hi:inkB y.data.toList
        · have hT:=Hd (blank_next H.out hyb hi)
          have HIk:=Hd hi
          clear H hy hyb hi
          go_wp2_with fail
          refine HBk.out.mono ?_
          rintro e w2 ⟨rfl,rfl⟩
          rw [HIk.out]
          go_wp2_with fail
          go_roundg g
          case measure=>omega
          case rel=>exact ⟨f+1,by omega,by go_num,Aside.intro hT.out,rfl⟩
        · have hT:=Hd (front_stop H.out hyb hi)
          have HIk:=Hd hi
          clear H hy hyb hi
          go_wp2_with fail
          refine HBk.out.mono ?_
          rintro e w2 ⟨rfl,rfl⟩
          rw [HIk.out]
          go_wp2_with fail
          go_meet
          exact ⟨f,by omega,rfl,Aside.intro hT.out,rfl⟩
  case rest =>
    obtain ⟨f,hfN,rfl,HF,rfl⟩:=hcut
    go_upto_block 4 with (fail)
    go_cut [7] (fun tv wx=>∃ t:Nat,f≤t∧t≤N∧tv=.int .i64 t∧Aside (trimL (bytesL ys)=((bytesL ys).drop f).take (t - f))∧wc=wx)
    case first =>
      go_wp2_with fail
      go_loopg [7] (N - f) (fun g tv wx=>∃ t:Nat,f≤t∧t≤f+g∧t≤N∧tv=.int .i64 t∧Aside (((bytesL ys).drop t).all (fun l=>!inkB l)=true)∧wc=wx)
      case atStart=>exact ⟨N,by omega,by omega,by omega,rfl,Aside.intro (by rw [List.drop_eq_nil_of_le (by unfold bytesL;rw [List.length_map,HYL.out];omega)];rfl),rfl⟩
      case round =>
        obtain ⟨t,hft,htg,htN,rfl,H,rfl⟩:=hrel
        by_cases hte:t=f
        · subst hte
          have hT:=Hd (back_end HF.out H.out)
          clear H
          go_wp2_with fail
          go_meet
          exact ⟨t,by omega,by omega,rfl,Aside.intro hT.out,rfl⟩
        · have hft1:f < t:=by omega
          obtain ⟨g,rfl⟩:∃ g,gk=g+1:=⟨gk - 1,by omega⟩
          obtain ⟨u,rfl⟩:∃ u,t=u+1:=⟨t - 1,by omega⟩
          have hfu:(f:Int) < (u:Int)+1:=by omega
          have hu0:(0:Int)≤(u:Int):=by omega
          have hu1:(u:Int) < (N:Int):=by omega
          obtain ⟨y,hy⟩:∃ y,ys[u]? = some y:=⟨_,List.getElem?_eq_getElem (by rw [HYL.out];omega)⟩
          obtain ⟨b,o,e,_,hcell⟩:=HS.out.2 u y hy
          injection e with e
          injection e with e1 e2
          subst e1 e2
          rw [Nat.zero_add] at hcell
          have HBk:=Hd (pbare_any y wc (by have:=HYS.out y (List.mem_of_getElem? hy);omega))
          have hyb:(bytesL ys)[u]? = some y.data.toList:=by unfold bytesL;rw [List.getElem?_map,hy];rfl
          cases hi:inkB y.data.toList
          · have hT:=Hd (blank_back H.out hyb hi)
            have HIk:=Hd hi
            clear H hy hyb hi hte
            go_wp2_with fail
            refine HBk.out.mono ?_
            rintro e w2 ⟨rfl,rfl⟩
            rw [HIk.out]
            go_wp2_with fail
            go_roundg g
            case measure=>omega
            case rel=>exact ⟨u,by omega,by omega,by omega,by go_num,Aside.intro hT.out,rfl⟩
          · have hT:=Hd (back_stop HF.out (by omega) H.out hyb hi)
            have HIk:=Hd hi
            clear H hy hyb hi hte
            go_wp2_with fail
            refine HBk.out.mono ?_
            rintro e w2 ⟨rfl,rfl⟩
            rw [HIk.out]
            go_wp2_with fail
            go_meet
            exact ⟨u+1,by omega,by omega,by go_num,Aside.intro hT.out,rfl⟩
    case rest =>
      obtain ⟨t,hft,htN,rfl,HT,rfl⟩:=hcut
      have hf0:(0:Int)≤(f:Int):=by omega
      have hft':(f:Int)≤(t:Int):=by omega
      have hzl:Hid (((ys.drop f).take (t - f)).length=t - f):=Hd (by rw [List.length_take,List.length_drop,HYL.out];omega)
      have hzb:Hid (Lib.join (((ys.drop f).take (t - f)).map (·.data.toList)) (⟨#[10]⟩:ByteArray).data.toList=valueL s.data.toList):=Hd (by
        show Lib.join _ [10]=_
        rw [join_ten,hval.out,HT.out];unfold bytesL;rw [List.map_take,List.map_drop])
      have hvl:(valueL s.data.toList).length≤13000:=by have:=value_len s.data.toList;rw [← Lib.size_eq] at this;omega
      by_cases hcf:cap=f
      · obtain rfl:t=f:=by omega
        have hnil:Hid ((⟨(valueL s.data.toList).toArray⟩:ByteArray)=⟨#[]⟩):=Hd (by rw [hval.out,HT.out];simp [joinTen])
        have HC:=Hd hcf
        subst hcf
        have HJ:=Hd (fun a c=>pjoin_none a c ⟨#[10]⟩ wc)
        have ht0:cap - cap=0:=by omega
        go_wp2_with fail
        refine (HJ.out _ _).mono ?_
        rintro e w3 ⟨rfl,rfl⟩
        go_wp2_with fail
        go_ret
        exact ⟨ret_str hnil.out.symm,HBB.out⟩
      · have HJ:=Hd (pjoin_many g0 f (cap - f) ((ys.drop f).take (t - f)) ⟨#[10]⟩ wc (fun j x hj=>by
          obtain ⟨b,o,e,_,hc⟩:=HS.out.2 (f+j) x (drop_take_get hj)
          injection e with e
          injection e with e1 e2
          subst e1 e2
          rw [Nat.zero_add] at hc
          exact hc) hgc (by rw [hzl.out];omega) (by rw [hzl.out];omega) (by rw [hzb.out];omega))
        rw [hzl.out,hzb.out] at HJ
        go_wp2_with fail
        refine HJ.out.mono ?_
        rintro e w3 ⟨rfl,hb3⟩
        have HB3:=Hd hb3
        clear hb3
        obtain ⟨V,hV⟩:∃ V:ByteArray,(⟨(valueL s.data.toList).toArray⟩:ByteArray)=V:=⟨_,rfl⟩
        have HV:=Hd hV
        rw [hV]
        clear hV
        go_wp2_with fail
        go_ret
        exact ⟨ret_str HV.out.symm,HBB.out.trans (HB3.out.mono HBB.out.size)⟩
theorem pvalue (s:ByteArray) (w:World) (hs:s.size≤13000):Calls Tryz.prog 254 #[.string s] w fun e w'=>e=.returned (.string ⟨(valueL s.data.toList).toArray⟩)∧Below w.heap.size w w':=pvalue_any s w hs
end Go.Proofs.YtkacnnhdfkpenaaGreatDoor.Blk
