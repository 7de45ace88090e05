/- The walk of the document's own Block. -/
import Derived.Test.YtkacnnhdfkpenaaGreatDoorSj0
import Derived.StillTailTactics
import Derived.Deep.DeepCutAuto
import Derived.Deep.CutBlock
import Derived.Shelf.Strings.BuilderK
import Derived.Shelf.Strings.BuilderRune
import Derived.Test.YtkacnnhdfkpenaaGreatDoorProg
namespace Go.Proofs.YtkacnnhdfkpenaaGreatDoor.Blk
open Go.RowKit
theorem linesB_bytes (l:List UInt8):bytesL (linesB l)=linesL l:=by
 unfold bytesL linesB
 rw [List.map_map]
 have:((fun x:ByteArray=>x.data.toList) ∘ fun x:List UInt8=>(⟨x.toArray⟩:ByteArray))=id:=by funext x;simp
 rw [this,List.map_id]
theorem strs_some {w:World} {base n:Nat} {A:Option Addr} {cap:Nat} {xs:List Value} (h:w.ownsRow base 9 1 (.slice A n cap) n xs) (hn:0 < n):∃ g,A=some ⟨g,0,none⟩∧base≤g∧g < w.heap.size∧n≤cap:=by
 rcases h.2 with ⟨_,h0⟩|⟨g,c,cur,hv,hb,_,hnc,_⟩
 · omega
 · have hv':=hv
   injection hv' with h1 h2 h3
   subst h1
   exact ⟨g,rfl,hb,(h.lt g rfl).2,by omega⟩
theorem after_room {l t:List UInt8} (h:afterL l=some t):(firstL l).length+1+t.length≤l.length:=by
 have e:(firstL l).length+(l.dropWhile fun c=>!eolB c).length=l.length:=by
  unfold firstL
  rw [← List.length_append,List.takeWhile_append_dropWhile]
 have : t.length < (l.dropWhile fun c=>!eolB c).length:=by
  unfold afterL at h
  generalize l.dropWhile (fun c=>!eolB c)=r at *
  split at h
  · cases h
  · split at h
    · split at h
      · split at h
        · cases h;simp only [List.length_cons];omega
        · cases h;simp only [List.length_cons];omega
      · cases h;simp
    · cases h;simp
 omega
theorem lines_room:∀ (n:Nat) (l:List UInt8),l.length < n→(linesL l).length≤l.length+1∧(∀ x ∈ linesL l,x.length≤l.length)∧(joinTen (linesL l)).length≤l.length:=by
 intro n
 induction n with
 | zero=>intro l h;omega
 | succ n ih =>
   intro l hl
   have hf:(firstL l).length≤l.length:=by
     unfold firstL
     have e:(l.takeWhile fun c=>!eolB c).length+(l.dropWhile fun c=>!eolB c).length=l.length:=by rw [← List.length_append,List.takeWhile_append_dropWhile]
     omega
   rw [linesL_eq]
   cases ha:afterL l with
   | none =>
     refine ⟨by simp,fun x hx=>?_,by simpa [joinTen] using hf⟩
     simp only [List.mem_cons,List.not_mem_nil,or_false] at hx
     rw [hx];exact hf
   | some t =>
     have hr:=after_room ha
     obtain ⟨h1,h2,h3⟩:=ih t (by omega)
     refine ⟨by simp only [List.length_cons];omega,fun x hx=>?_,?_⟩
     · simp only [List.mem_cons] at hx
       rcases hx with hx|hx
       · rw [hx];exact hf
       · have:=h2 x hx;omega
     · show (joinTen (firstL l :: linesL t)).length≤_
       cases hlt:linesL t with
       | nil=>exact absurd hlt (linesL_ne t)
       | cons y r =>
         rw [hlt] at h3
         show (firstL l++10 :: joinTen (y :: r)).length≤_
         rw [List.length_append,List.length_cons]
         omega
def cutS (m:Nat) (x:ByteArray):ByteArray:=x.extract (min m x.size) x.size
def cutB (m k:Nat) (xs:List ByteArray):List ByteArray:=xs.mapIdx fun i x=>if 1≤i∧i < k then cutS m x else x
theorem cutB_get {m k j:Nat} {xs:List ByteArray} : (cutB m k xs)[j]? = (xs[j]?).map fun x=>if 1≤j∧j < k then cutS m x else x:=by
 unfold cutB;rw [List.getElem?_mapIdx]
theorem cutB_start (m:Nat) (xs:List ByteArray):cutB m 1 xs=xs:=by
 apply List.ext_getElem?
 intro j
 rw [cutB_get]
 cases xs[j]? with
 | none=>rfl
 | some x=>simp only [Option.map_some];rw [if_neg (by omega)]
theorem cutB_set {m k:Nat} {xs:List ByteArray} {x:ByteArray} (hk:1≤k) (hx:xs[k]? = some x):(cutB m k xs).set k (cutS m x)=cutB m (k+1) xs:=by
 apply List.ext_getElem?
 intro j
 rw [List.getElem?_set,cutB_get,cutB_get]
 by_cases hj:k=j
 · subst hj
   rw [if_pos rfl,hx]
   have:k < (cutB m k xs).length:=by
     have:=(List.getElem?_eq_some_iff.1 hx).1
     unfold cutB;rw [List.length_mapIdx];exact this
   rw [if_pos this]
   simp only [Option.map_some]
   rw [if_pos ⟨hk,by omega⟩]
 · rw [if_neg hj]
   cases xs[j]? with
   | none=>rfl
   | some y =>
     simp only [Option.map_some]
     by_cases h:1≤j∧j < k
     · rw [if_pos h,if_pos ⟨h.1,by omega⟩]
     · rw [if_neg h,if_neg (by omega)]
theorem cutB_length (m k:Nat) (xs:List ByteArray):(cutB m k xs).length=xs.length:=by unfold cutB;simp
theorem cutS_bytes (m:Nat) (x:ByteArray):(cutS m x).data.toList=x.data.toList.drop m:=by
 unfold cutS
 rw [extract_list,List.take_of_length_le (by rw [List.length_drop,← Lib.size_eq];omega)]
 by_cases h:m≤x.size
 · rw [Nat.min_eq_left h]
 · rw [Nat.min_eq_right (by omega),List.drop_eq_nil_of_le (by rw [← Lib.size_eq];omega),List.drop_eq_nil_of_le (by rw [← Lib.size_eq];omega)]
theorem cutB_bytes (m:Nat) (xs:List ByteArray):bytesL (cutB m xs.length xs)=cutL m (bytesL xs):=by
 apply List.ext_getElem?
 intro j
 unfold bytesL
 rw [List.getElem?_map,cutB_get]
 cases xs with
 | nil=>simp [cutL]
 | cons y t =>
   cases j with
   | zero=>simp [cutL]
   | succ j =>
     simp only [List.getElem?_cons_succ,List.map_cons,cutL,List.map_map,List.getElem?_map,List.length_cons,Option.map_map]
     cases h:t[j]? with
     | none=>rfl
     | some z =>
       have:=(List.getElem?_eq_some_iff.1 h).1
       simp only [Option.map_some,Function.comp]
       rw [if_pos (by omega),cutS_bytes]
theorem strs_of_own' {w:World} {base n:Nat} {A:Option Addr} {cap:Nat} {xs:List ByteArray} (h:w.ownsRow base 9 1 (.slice A n cap) n (xs.map Value.string)):StrsAt w w.heap.size A n xs:=by
 have hl:xs.length=n:=by have:=h.1;rw [List.length_map] at this;omega
 subst hl
 exact (strs_of_own h).2
theorem dropWhile_all (p:List UInt8→Bool):∀ (a r:List (List UInt8)),a.all p=true→(a++r).dropWhile p=r.dropWhile p:=by
 intro a r h
 induction a with
 | nil=>rfl
 | cons x a ih =>
   rw [List.all_cons,Bool.and_eq_true] at h
   rw [List.cons_append,List.dropWhile_cons,h.1]
   simp only [if_true]
   exact ih h.2
theorem front_end {ls:List (List UInt8)} {f:Nat} (h:(ls.take f).all (fun l=>!inkB l)=true):ls.length≤f→frontL ls=[]:=by
 intro hf
 rw [List.take_of_length_le hf] at h
 have:=dropWhile_all (fun l=>!inkB l) ls [] h
 rw [List.append_nil] at this
 exact this
theorem front_stop {ls:List (List UInt8)} {f:Nat} {x:List UInt8} (h:(ls.take f).all (fun l=>!inkB l)=true) (hx:ls[f]? = some x) (hi:inkB x=true):frontL ls=ls.drop f:=by
 obtain ⟨hf,rfl⟩:=List.getElem?_eq_some_iff.1 hx
 unfold frontL
 conv=>lhs;rw [← List.take_append_drop f ls]
 rw [dropWhile_all _ _ _ h,List.drop_eq_getElem_cons hf,List.dropWhile_cons]
 simp [hi]
theorem blank_next {ls:List (List UInt8)} {f:Nat} {x:List UInt8} (h:(ls.take f).all (fun l=>!inkB l)=true) (hx:ls[f]? = some x) (hi:inkB x=false):(ls.take (f+1)).all (fun l=>!inkB l)=true:=by
 rw [List.take_add_one,hx,List.all_append,h]
 simp [hi]
theorem blank_back {ls:List (List UInt8)} {u:Nat} {x:List UInt8} (h:(ls.drop (u+1)).all (fun l=>!inkB l)=true) (hx:ls[u]? = some x) (hi:inkB x=false):(ls.drop u).all (fun l=>!inkB l)=true:=by
 obtain ⟨hf,rfl⟩:=List.getElem?_eq_some_iff.1 hx
 rw [List.drop_eq_getElem_cons hf,List.all_cons,h]
 simp [hi]
theorem back_of {ls a b:List (List UInt8)} {f:Nat} (hF:frontL ls=ls.drop f) (he:ls.drop f=a++b) (hb:b.all (fun l=>!inkB l)=true) (ha:a.reverse.dropWhile (fun l=>!inkB l)=a.reverse):trimL ls=a:=by
 unfold trimL
 rw [hF,he,List.reverse_append]
 unfold frontL
 rw [dropWhile_all _ _ _ (by rw [List.all_reverse];exact hb),ha,List.reverse_reverse]
theorem back_end {ls:List (List UInt8)} {f:Nat} (hF:frontL ls=ls.drop f) (h:(ls.drop f).all (fun l=>!inkB l)=true):trimL ls=(ls.drop f).take (f - f):=by
 rw [back_of (a:=[]) hF rfl h rfl];simp
theorem back_stop {ls:List (List UInt8)} {f u:Nat} {x:List UInt8} (hF:frontL ls=ls.drop f) (hf:f≤u) (h:(ls.drop (u+1)).all (fun l=>!inkB l)=true) (hx:ls[u]? = some x) (hi:inkB x=true):trimL ls=(ls.drop f).take (u+1 - f):=by
 obtain ⟨hu,rfl⟩:=List.getElem?_eq_some_iff.1 hx
 refine back_of (b:=ls.drop (u+1)) hF ?_ h ?_
 · have:=(List.take_append_drop (u+1 - f) (ls.drop f)).symm
   rw [List.drop_drop,show f+(u+1 - f)=u+1 from by omega] at this
   exact this
 · rw [show u+1 - f=(u - f)+1 from by omega,List.take_add_one,List.getElem?_drop,show f+(u - f)=u from by omega,List.getElem?_eq_getElem hu]
   simp [hi]
end Go.Proofs.YtkacnnhdfkpenaaGreatDoor.Blk
namespace Go.Proofs.YtkacnnhdfkpenaaGreatDoor
def letB (c:Int):Bool:=decide ((97≤c∧c≤122)∨(65≤c∧c≤90)∨c=95)
def digB (c:Int):Bool:=decide (48≤c∧c≤57)
def halfB (c:Int):Bool:=decide (55296≤c∧c≤57343)
def pairB (a b:Int):Bool:=decide (55296≤a∧a < 56320∧56320≤b∧b≤57343)
def tailB (l:List UInt8):Bool:=l.all fun b=>letB (b.toNat:Int) || digB (b.toNat:Int)
def nameB:List UInt8→Bool
 | []=>false
 | b :: t=>letB (b.toNat:Int) && tailB t
theorem tailB_append (l m:List UInt8):tailB (l++m)=(tailB l && tailB m):=by simp [tailB]
theorem nameB_append (l m:List UInt8) (h:l ≠ []):nameB (l++m)=(nameB l && tailB m):=by
 cases l with
 | nil=>exact absurd rfl h
 | cons b t=>simp [nameB,tailB_append,Bool.and_assoc]
theorem take_snoc (s:ByteArray) (k:Nat) (h:k < s.size):s.data.toList.take (k+1)=s.data.toList.take k++[s[k]]:=by
 rw [List.take_succ_eq_append_getElem (by simpa using h)];rfl
def nameTo (s:ByteArray) (k:Nat):Prop:=k=0∨nameB (s.data.toList.take k)=true
theorem take_ne (s:ByteArray) (k:Nat) (h0:k ≠ 0) (h:k < s.size):s.data.toList.take k ≠ []:=by
 have:s.data.toList.length=s.size:=Array.length_toList
 intro e
 have:=congrArg List.length e
 simp only [List.length_take,List.length_nil] at this
 omega
theorem nameTo_letter {s:ByteArray} {k:Nat} (h:k < s.size) (ht:nameTo s k) (hl:letB (s[k].toNat:Int)=true):nameTo s (k+1):=by
 refine .inr ?_
 rw [take_snoc s k h]
 rcases ht with h0|ht
 · subst h0;simp [nameB,tailB,hl]
 · rw [nameB_append _ _ (by intro e;rw [e] at ht;cases ht),ht];simp [tailB,hl]
theorem nameTo_digit {s:ByteArray} {k:Nat} (h:k < s.size) (h0:k ≠ 0) (ht:nameTo s k) (hl:digB (s[k].toNat:Int)=true):nameTo s (k+1):=by
 refine .inr ?_
 rw [take_snoc s k h]
 rcases ht with h0'|ht
 · exact absurd h0' h0
 · rw [nameB_append _ _ (by intro e;rw [e] at ht;cases ht),ht];simp [tailB,hl]
theorem nameB_split (s:ByteArray) (k:Nat) (h:k < s.size):s.data.toList=s.data.toList.take k++s[k] :: s.data.toList.drop (k+1):=by
 have e:=(List.take_append_drop (k+1) s.data.toList).symm
 rw [take_snoc s k h,List.append_assoc] at e
 exact e
theorem name_stop0 {s:ByteArray} (h:0 < s.size) (hl:letB (s[0].toNat:Int)=false):nameB s.data.toList=false:=by
 rw [nameB_split s 0 h];simp [nameB,hl]
theorem name_stop {s:ByteArray} {k:Nat} (h:k < s.size) (h0:k ≠ 0) (hl:letB (s[k].toNat:Int)=false) (hd:digB (s[k].toNat:Int)=false):nameB s.data.toList=false:=by
 rw [nameB_split s k h,nameB_append _ _ (take_ne s k h0 h)]
 simp [tailB,hl,hd]
theorem name_done {s:ByteArray} (ht:nameTo s s.size):nameB s.data.toList = !s.toList.isEmpty:=by
 have hl:s.data.toList.length=s.size:=Array.length_toList
 have e:s.toList=s.data.toList:=Lib.toList_data s
 rw [e]
 rcases ht with h0|ht
 · have:s.data.toList=[]:=List.eq_nil_of_length_eq_zero (by omega)
   rw [this];rfl
 · rw [← hl,List.take_length] at ht
   rw [ht]
   cases h:s.data.toList with
   | nil=>rw [h] at ht;cases ht
   | cons _ _=>rfl
open Go.RowKit
theorem Aside.intro {p:Prop} (h:p):Aside p:=h
theorem ret_bool {a b:Bool} (h:a=b):Ending.returned (.bool a)=.returned (.bool b):=by rw [h]
theorem ret_boolw {a b:Bool} {w:World} (h:a=true ↔ b=true):Ending.returned (.bool a)=.returned (.bool b)∧w=w:=by rw [Bool.eq_iff_iff.2 h];exact ⟨rfl,rfl⟩
theorem letter_any (c:Int) (w:World):Calls Tryz.prog 161 #[.int .u8 c] w fun e w'=>e=.returned (.bool (letB c))∧w=w':=by
 go_enter Tryz.func161,Tryz.ntmps161
 go_wp2
 all_goals go_ret
 all_goals (refine ret_boolw ?_;simp [letB];try omega)
theorem digit_any (c:Int) (w:World):Calls Tryz.prog 162 #[.int .u8 c] w fun e w'=>e=.returned (.bool (digB c))∧w=w':=by
 go_enter Tryz.func162,Tryz.ntmps162
 go_wp2
 all_goals go_ret
 all_goals (refine ret_boolw ?_;simp [digB];try omega)
theorem half_any (c:Int) (w:World):Calls Tryz.prog 290 #[.int .i64 c] w fun e w'=>e=.returned (.bool (halfB c))∧w=w':=by
 go_enter Tryz.func290,Tryz.ntmps290
 go_wp2
 all_goals go_ret
 all_goals (refine ret_boolw ?_;simp [halfB];try omega)
theorem pair_any (a b:Int) (w:World):Calls Tryz.prog 326 #[.int .i64 a,.int .i64 b] w fun e w'=>e=.returned (.bool (pairB a b))∧w=w':=by
 go_enter Tryz.func326,Tryz.ntmps326
 go_wp2
 all_goals go_ret
 all_goals (refine ret_boolw ?_;simp [pairB];try omega)
theorem name_any (s:ByteArray) (w:World) (hs:s.size≤1100000):Calls Tryz.prog 95 #[.string s] w fun e w'=>e=.returned (.bool (nameB s.data.toList))∧w=w':=by
 go_enter Tryz.func95,Tryz.ntmps95
 go_wp2
 go_loop [6] (fun i=>∃ k:Nat,k≤s.size∧i=.int .i64 k∧nameTo s k) (fun i=>s.size - (intOf i).toNat)
 case atStart=>exact ⟨0,Nat.zero_le _,rfl,.inl rfl⟩
 case round =>
  obtain ⟨k,hk,rfl,H⟩:=hrel
  by_cases hlt:k < s.size
  · cases hl:letB (s[k].toNat:Int)
    · by_cases h0:k=0
      · have hst:=Aside.intro (name_stop0 (s:=s) (by omega) (by subst h0;exact hl))
        have e0:((k:Int) == 0)=true:=by simp [h0]
        clear h0 H
        go_wp2_with (first
          | (go_at_call 161;refine (letter_any _ _).mono ?_;rintro e w' ⟨rfl,rfl⟩)
          | (go_at_call 162;refine (digit_any _ _).mono ?_;rintro e w' ⟨rfl,rfl⟩))
        go_ret
        exact ⟨ret_bool hst.out.symm,rfl⟩
      · have e0:((k:Int) == 0)=false:=by simp [h0]
        cases hd:digB (s[k].toNat:Int)
        · have hst:=Aside.intro (name_stop (s:=s) hlt h0 hl hd)
          clear h0 H
          go_wp2_with (first
           | (go_at_call 161;refine (letter_any _ _).mono ?_;rintro e w' ⟨rfl,rfl⟩)
           | (go_at_call 162;refine (digit_any _ _).mono ?_;rintro e w' ⟨rfl,rfl⟩))
          go_ret
          exact ⟨ret_bool hst.out.symm,rfl⟩
        · have hst:=Aside.intro (nameTo_digit (s:=s) hlt h0 H hd)
          clear h0 H
          go_wp2_with (first
           | (go_at_call 161;refine (letter_any _ _).mono ?_;rintro e w' ⟨rfl,rfl⟩)
           | (go_at_call 162;refine (digit_any _ _).mono ?_;rintro e w' ⟨rfl,rfl⟩))
          go_round
          case rel=>exact ⟨k+1,by omega,by go_num,hst.out⟩
          case measure=>simp [intOf];omega
    · have hst:=Aside.intro (nameTo_letter (s:=s) hlt H hl)
      clear H
      go_wp2_with (first
        | (go_at_call 161;refine (letter_any _ _).mono ?_;rintro e w' ⟨rfl,rfl⟩)
        | (go_at_call 162;refine (digit_any _ _).mono ?_;rintro e w' ⟨rfl,rfl⟩))
      go_round
      case rel=>exact ⟨k+1,by omega,by go_num,hst.out⟩
      case measure=>simp [intOf];omega
  · obtain rfl:k=s.size:=by omega
    have hst:=Aside.intro (name_done H)
    clear H hk
    go_wp2
    go_ret
    exact ⟨ret_bool hst.out.symm,rfl⟩
open Go.Shelf Go.RowKit
def runeRen:Go.Shelf.Ren:=⟨fun|168=>142|240=>141|242=>219|276=>218|278=>271|n=>n,fun|0=>0|3=>3|4=>4|5=>5|9=>9|20=>20|21=>21|37=>116|46=>159|51=>274|70=>115|72=>118|75=>121|80=>126|164=>241|n=>n,fun|n=>n⟩
theorem runeLays:Go.Proofs.Lays.n168 Tryz.prog runeRen:={
 mixed:=by kernel_rfl
 f168:=Tryz.func142.trans (congrArg some (by kernel_rfl))
 f240:=Tryz.func141.trans (congrArg some (by kernel_rfl))
 f242:=Tryz.func219.trans (congrArg some (by kernel_rfl))
 f276:=Tryz.func218.trans (congrArg some (by kernel_rfl))
 f278:=Tryz.func271.trans (congrArg some (by kernel_rfl))
 t0:=Tryz.underlying0
 a0:=Tryz.isAgg0
 z0:=Tryz.sizeOf0
 v0:=Tryz.zeroValue0
 t3:=Tryz.underlying3
 a3:=Tryz.isAgg3
 z3:=Tryz.sizeOf3
 v3:=Tryz.zeroValue3
 t4:=Tryz.underlying4
 a4:=Tryz.isAgg4
 z4:=Tryz.sizeOf4
 v4:=Tryz.zeroValue4
 t5:=Tryz.underlying5
 a5:=Tryz.isAgg5
 z5:=Tryz.sizeOf5
 v5:=Tryz.zeroValue5
 t9:=Tryz.underlying9
 a9:=Tryz.isAgg9
 z9:=Tryz.sizeOf9
 v9:=Tryz.zeroValue9
 t20:=Tryz.underlying20
 a20:=Tryz.isAgg20
 z20:=Tryz.sizeOf20
 v20:=Tryz.zeroValue20
 t21:=Tryz.underlying21
 a21:=Tryz.isAgg21
 z21:=Tryz.sizeOf21
 v21:=Tryz.zeroValue21
 t37:=Tryz.underlying116
 a37:=Tryz.isAgg116
 z37:=Tryz.sizeOf116
 v37:=Tryz.zeroValue116
 t46:=Tryz.underlying159
 a46:=Tryz.isAgg159
 z46:=Tryz.sizeOf159
 v46:=Tryz.zeroValue159
 t51:=Tryz.underlying274
 a51:=Tryz.isAgg274
 z51:=Tryz.sizeOf274
 v51:=Tryz.zeroValue274
 t70:=Tryz.underlying115
 a70:=Tryz.isAgg115
 z70:=Tryz.sizeOf115
 v70:=Tryz.zeroValue115
 t72:=Tryz.underlying118
 a72:=Tryz.isAgg118
 z72:=Tryz.sizeOf118
 v72:=Tryz.zeroValue118
 t75:=Tryz.underlying121
 a75:=Tryz.isAgg121
 z75:=Tryz.sizeOf121
 v75:=Tryz.zeroValue121
 t164:=Tryz.underlying241
 a164:=Tryz.isAgg241
 z164:=Tryz.sizeOf241
 v164:=Tryz.zeroValue241 }
theorem runeExtra:Builder.Extra Tryz.prog runeRen:={
 sizeBuilder:=by kernel_rfl
 liesBuilder:=by kernel_rfl
 t5:=Tryz.underlying5
 a5:=Tryz.isAgg5
 z5:=Tryz.sizeOf5
 v5:=Tryz.zeroValue5
 infoByte:=by kernel_rfl
 cellsByte:=by kernel_rfl
 sizeByte:=by kernel_rfl
 neB5:=by decide }
theorem writeRune (B b:Nat) (bs:List Value) (r:Int) (hr0 : -2147483648≤r) (hr1:r≤2147483647) (w:World) (h:Lib.IsBuilderF 118 5 B b bs w) (hlen:bs.length+4≤140737488355328) (hBw:B≤w.heap.size) :
  Calls Tryz.prog 142 #[.pointer (some ⟨b,0,none⟩),.int .i32 r] w fun e w'=>e=.returned (.tuple #[.int .i64 (Lib.runeCells r).length,.nilIface])∧(Lib.BuilderAtF 118 5 B b (.pointer (some ⟨b,0,none⟩)) (bs++Lib.runeCells r) w'∧Below B w w'∧Lib.OthersKept 5 (some b) w w'):=
 Any.Builder_WriteRune_k runeLays runeExtra B b bs r hr0 hr1 w h hlen hBw
def textRen:Go.Shelf.Ren:=⟨fun|169=>78|n=>n,fun|0=>0|3=>3|9=>9|37=>116|70=>115|72=>118|127=>191|5=>5|n=>n,fun|n=>n⟩
theorem textLays:Go.Proofs.Lays.n169 Tryz.prog textRen:={
 mixed:=by kernel_rfl
 f169:=Tryz.func78.trans (congrArg some (by kernel_rfl))
 t0:=Tryz.underlying0
 a0:=Tryz.isAgg0
 z0:=Tryz.sizeOf0
 v0:=Tryz.zeroValue0
 t3:=Tryz.underlying3
 a3:=Tryz.isAgg3
 z3:=Tryz.sizeOf3
 v3:=Tryz.zeroValue3
 t9:=Tryz.underlying9
 a9:=Tryz.isAgg9
 z9:=Tryz.sizeOf9
 v9:=Tryz.zeroValue9
 t37:=Tryz.underlying116
 a37:=Tryz.isAgg116
 z37:=Tryz.sizeOf116
 v37:=Tryz.zeroValue116
 t70:=Tryz.underlying115
 a70:=Tryz.isAgg115
 z70:=Tryz.sizeOf115
 v70:=Tryz.zeroValue115
 t72:=Tryz.underlying118
 a72:=Tryz.isAgg118
 z72:=Tryz.sizeOf118
 v72:=Tryz.zeroValue118
 t127:=Tryz.underlying191
 a127:=Tryz.isAgg191
 z127:=Tryz.sizeOf191
 v127:=Tryz.zeroValue191 }
theorem textExtra:Builder.Extra Tryz.prog textRen:={
 sizeBuilder:=by kernel_rfl
 liesBuilder:=by kernel_rfl
 t5:=Tryz.underlying5
 a5:=Tryz.isAgg5
 z5:=Tryz.sizeOf5
 v5:=Tryz.zeroValue5
 infoByte:=by kernel_rfl
 cellsByte:=by kernel_rfl
 sizeByte:=by kernel_rfl
 neB5:=by decide }
theorem builderText (B b:Nat) (l:List UInt8) (w:World) (h:Lib.IsBuilderF 118 5 B b (Lib.byteCells l) w) (hBw:B≤w.heap.size) :
  Calls Tryz.prog 78 #[.pointer (some ⟨b,0,none⟩)] w fun e w'=>e=.returned (.string ⟨l.toArray⟩)∧(Lib.IsBuilderF 118 5 B b (Lib.byteCells l) w'∧Below B w w'∧Lib.OthersKept 5 (some b) w w'):=
 Any.Builder_String_any_k textLays textExtra B b l w h hBw
end Go.Proofs.YtkacnnhdfkpenaaGreatDoor
