/- The document's own blocked and skip. -/
import Derived.Test.YtkmloefbkgcbkaaGreatDoorSr46
set_option maxRecDepth 100000
set_option maxHeartbeats 4000000
namespace Go.Proofs.YtkmloefbkgcbkaaGreatDoor
open Go.RowKit
theorem Yhn:∀ (n:Nat) (a:List UInt8) (b:UInt8) (t:List UInt8),a.length≤n→Zm (a++b :: t)=true→b.toNat < 128→Zm (b :: t)=true:=by
 intro n
 induction n with
 | zero =>
   intro a b t ha h _;have:a=[]:=List.eq_nil_of_length_eq_zero (by omega);subst this;exact h
 | succ n ih =>
   intro a b t ha h hb
   cases a with
   | nil=>exact h
   | cons x y =>
     obtain ⟨z,_,hz,hl,hg⟩:=Mi (by simp) h;have hz':0≤z∧z≤1114111∧X6 z=false:=by simpa [okB] using hz
     have h1:=(Zjs z).1;obtain ⟨k,hk⟩:∃ k,(Lib.encodeRune z).length=k:=⟨_,rfl⟩;rw [hk] at hg h1
     by_cases hle:k≤(x :: y).length
     · rw [List.drop_append_of_le_length hle] at hg
       exact ih ((x :: y).drop k) b t (by rw [List.length_drop];simp at ha ⊢;omega) hg hb
     · exfalso
       have hbz:b ∈ Lib.encodeRune z:=by
         have hget:(Lib.encodeRune z)[(x :: y).length]? = some b:=by
          have e:((x :: y)++b :: t)[(x :: y).length]? = some b:=by simp
          rw [hl,List.getElem?_append_left (by rw [hk];omega)] at e;exact e
         exact List.mem_of_getElem? hget
       by_cases h128:z < 128
       · rw [Ba hz'.1 h128] at hk
         simp at hk
         simp at hle
         omega
       · have:=Dq (c:=z) (by omega) b hbz
         omega
theorem Ym3 {s:ByteArray} {i:Nat} (h:Zm s.data.toList=true) (hi:i < s.size) (hb:(s[i]).toNat < 128):Zm (s.data.toList.drop (i+1))=true:=by
 have e:=List.take_append_drop i s.data.toList;rw [Zc s i hi] at e;rw [← e] at h;exact Pf (Yhn _ _ _ _ (Nat.le_refl _) h hb) hb
def bV (raw:List UInt8) (i:Nat) (o:Option (List UInt8 × Nat)):Value:=
 match o with
 | none=>noQ
 | some q=>.tuple #[.string ⟨(Blk.valueL (raw++q.1)).toArray⟩,.int .i64 ((i+q.2:Nat):Int),.bool true]
theorem Ykf {raw x:List UInt8} {i n:Nat} {o:Option (List UInt8 × Nat)} : bV raw i (o.map fun q=>(x++q.1,n+q.2))=bV (raw++x) (i+n) o:=by
 cases o with
 | none=>rfl
 | some q=>simp only [Option.map_some,bV,List.append_assoc,Nat.add_assoc]
theorem Rc (s:ByteArray) (i:Nat) (h:i < s.size):(s.extract i (i+1)).data.toList=[s[i]]:=by
 have:(s.extract i (i+1)).data.toList=(s.data.toList.drop i).take 1:=by
  simp [ByteArray.data_extract,Array.toList_extract,List.extract]
 rw [this,Zc s i h]
 rfl
theorem Ty (s:ByteArray) (i0:Nat) (w:World) (hs:s.size≤9000) (hi:i0≤s.size) :
  Calls Tryz.prog 62 #[.string s,.int .i64 i0] w fun e w'=>e=.returned (bV [] i0 (Pb (s.data.toList.drop i0)))∧Below w.heap.size w w':=by
 obtain ⟨RV,hRV⟩:∃ RV,bV [] i0 (Pb (s.data.toList.drop i0))=RV:=⟨_,rfl⟩;rw [hRV];have HRV:=Hd hRV;clear hRV
 go_enter Tryz.func62,Tryz.ntmps62
 go_wp2
 go_loopg [1,7] (s.size - i0) (fun g iv rv wx=>∃ (i:Nat) (raw:ByteArray),i+g=s.size∧iv=.int .i64 i∧rv=.string raw∧raw.size≤i∧Aside (bV raw.data.toList i (Pb (s.data.toList.drop i))=RV)∧wx=w)
 case atStart=>exact ⟨i0,⟨#[]⟩,by omega,rfl,rfl,by show 0≤_;omega,Aside.intro HRV.out,rfl⟩
 case round =>
  obtain ⟨i,raw,hig,rfl,rfl,hrs,H,rfl⟩:=hrel;have hi0:(0:Int)≤(i:Int):=by omega
  by_cases hlt:i < s.size
  · have hlt':(i:Int) < (s.size:Int):=by omega
    have hB1:=I8 s ⟨#[34,34,34]⟩ i wr hs (by show 3≤9000;omega) (by omega);have hB2:=I8 s ⟨#[92,34,34,34]⟩ i wr hs (by show 4≤9000;omega) (by omega);have hH:=H.out;rw [Zc s i hlt,W7,← Zc s i hlt] at hH
    cases b1:pre [34,34,34] (s.data.toList.drop i)
    · rw [show pre (⟨#[34,34,34]⟩:ByteArray).data.toList (s.data.toList.drop i)=false from b1] at hB1
      rw [b1] at hH;simp only [Bool.false_eq_true,if_false] at hH
      cases b2:pre [92,34,34,34] (s.data.toList.drop i)
      · rw [show pre (⟨#[92,34,34,34]⟩:ByteArray).data.toList (s.data.toList.drop i)=false from b2] at hB2
        rw [b2] at hH;simp only [Bool.false_eq_true,if_false] at hH
        have hN:bV (raw++s.extract i (i+1)).data.toList (i+1) (Pb (s.data.toList.drop (i+1)))=RV:=by
         rw [Iv,Rc s i hlt,← Ykf];exact hH
        have HN:=Hd hN;have HB1:=Hd hB1;have HB2:=Hd hB2;have c1:(i:Int)+1=((i+1:Nat):Int):=by omega
        obtain ⟨E,hE⟩:∃ E,i+1=E:=⟨_,rfl⟩;have g1:(i:Int)+1=(E:Int):=by omega
        have g2:(i:Int)≤(E:Int):=by omega
        have g3:(E:Int)≤(s.size:Int):=by omega
        have xs:(s.extract i E).size=1:=by rw [← Z7,← hE,Rc s i hlt];rfl
        have q1:(raw.size:Int)+((s.extract i E).size:Int)=((raw.size+(s.extract i E).size:Nat):Int):=by omega
        rw [hE] at HN;clear H hH hN hB1 hB2 b1 b2 c1;go_wp2_with fail
        refine HB1.out.mono ?_;rintro e w1 ⟨rfl,rfl⟩;go_wp2_with fail
        refine HB2.out.mono ?_;rintro e w1 ⟨rfl,rfl⟩;go_wp2_with fail
        go_roundg (gk - 1)
        case measure=>omega
        case rel=>exact ⟨E,_,by omega,by go_num,rfl,by rw [ByteArray.size_append,xs];omega,Aside.intro HN.out,rfl⟩
      · rw [show pre (⟨#[92,34,34,34]⟩:ByteArray).data.toList (s.data.toList.drop i)=true from b2] at hB2
        rw [b2] at hH;simp only [if_true,List.drop_drop] at hH
        have h4:i+4≤s.size:=by
         have:=V9 b2;rw [List.length_drop,Z7] at this;simp at this
         omega
        have hN:bV (raw ++ ⟨#[34,34,34]⟩).data.toList (i+4) (Pb (s.data.toList.drop (i+4)))=RV:=by
         rw [Iv]
         show bV (raw.data.toList++[34,34,34]) (i+4) _=RV;rw [← Ykf];exact hH
        have HN:=Hd hN;have HB1:=Hd hB1;have HB2:=Hd hB2;have q1:(raw.size:Int)+3=((raw.size+3:Nat):Int):=by omega
        clear H hH hN hB1 hB2 b1 b2;go_wp2_with fail
        refine HB1.out.mono ?_;rintro e w1 ⟨rfl,rfl⟩;go_wp2_with fail
        refine HB2.out.mono ?_;rintro e w1 ⟨rfl,rfl⟩;go_wp2_with fail
        go_roundg (gk - 4)
        case measure=>omega
        case rel=>exact ⟨i+4,_,by omega,by go_num,rfl,by rw [ByteArray.size_append];show raw.size+3≤_;omega,Aside.intro HN.out,rfl⟩
    · rw [show pre (⟨#[34,34,34]⟩:ByteArray).data.toList (s.data.toList.drop i)=true from b1] at hB1
      rw [b1] at hH;simp only [if_true] at hH;have hv:Hid (RV=.tuple #[.string ⟨(Blk.valueL raw.data.toList).toArray⟩,.int .i64 ((i+3:Nat):Int),.bool true]):=Hd (by rw [← hH];simp [bV]);have HB1:=Hd hB1;have HK:=fun w=>Hd (Blk.rblock_any raw w (by omega));clear H hH hB1 hB2 b1;go_wp2_with fail
      refine HB1.out.mono ?_;rintro e w1 ⟨rfl,rfl⟩;go_wp2_with fail
      refine (HK _).out.mono ?_;rintro e w2 ⟨rfl,hb2⟩;have HB2:=Hd hb2;clear hb2 HK;go_wp2_with fail
      go_ret3
      exact ⟨by rw [hv.out];rfl,HB2.out⟩
  · have hge : ¬ (i:Int) < (s.size:Int):=by omega
    have hv:Hid (RV=noQ):=Hd (by rw [← H.out,Ys s i (by omega)];rfl);clear H;go_wp2_with fail
    go_ret3
    exact ⟨by rw [hv.out];rfl,Below.refl _ _⟩
def skF:Nat→List UInt8→Nat
 | 0,_=>0
 | n+1,l=>if Jy l=0 then 0 else Jy l+skF n (l.drop (Jy l))
def Gp (l:List UInt8):Nat:=skF l.length l
theorem Zy8:∀ (n m:Nat) (l:List UInt8),l.length≤n→l.length≤m→skF n l=skF m l:=by
 intro n
 induction n with
 | zero =>
   intro m l hn _;have:l=[]:=List.eq_nil_of_length_eq_zero (by omega);subst this
   cases m with
   | zero=>rfl
   | succ m=>rfl
 | succ n ih =>
   intro m l hn hm
   cases m with
   | zero =>
     have:l=[]:=List.eq_nil_of_length_eq_zero (by omega);subst this
     rfl
   | succ m =>
     rw [skF,skF]
     by_cases h:Jy l=0
     · rw [if_pos h,if_pos h]
     · rw [if_neg h,if_neg h,ih m _ (by rw [List.length_drop];omega) (by rw [List.length_drop];omega)]
theorem We {l:List UInt8} (h:Jy l=0):Gp l=0:=by
 unfold Gp
 cases l with
 | nil=>rfl
 | cons b t=>rw [List.length_cons,skF,if_pos h]
theorem Fi {l:List UInt8} (h:Jy l ≠ 0):Gp l=Jy l+Gp (l.drop (Jy l)):=by
 unfold Gp
 cases hl:l with
 | nil=>subst hl;exact absurd rfl h
 | cons b t =>
   rw [← hl];have h1:l.length=t.length+1:=by rw [hl];rfl
   rw [h1,skF,if_neg h,Zy8 t.length (l.drop (Jy l)).length _ (by rw [List.length_drop];omega) (Nat.le_refl _)]
theorem Ybe:∀ (n:Nat) (l:List UInt8),l.length≤n→Gp l≤l.length:=by
 intro n
 induction n with
 | zero =>
   intro l h;have:l=[]:=List.eq_nil_of_length_eq_zero (by omega);subst this;exact Nat.le_refl _
 | succ n ih =>
   intro l h
   by_cases h0:Jy l=0
   · rw [We h0];omega
   · rw [Fi h0]
     have h1:=Mc l;have h2:=ih (l.drop (Jy l)) (by rw [List.length_drop];omega);rw [List.length_drop] at h2;omega
theorem Zxp:∀ (n:Nat) (l:List UInt8),l.length≤n→Jy (l.drop (Gp l))=0:=by
 intro n
 induction n with
 | zero =>
   intro l h;have:l=[]:=List.eq_nil_of_length_eq_zero (by omega);subst this
   rfl
 | succ n ih =>
   intro l h
   by_cases h0:Jy l=0
   · rw [We h0];exact h0
   · rw [Fi h0,← List.drop_drop]
     exact ih _ (by rw [List.length_drop];omega)
theorem Rk {p:UInt8→Bool} : ∀ {l:List UInt8} {k:Nat} {b:UInt8},k≤(l.takeWhile p).length→l[k]? = some b→p b=true→k+1≤(l.takeWhile p).length:=by
 intro l
 induction l with
 | nil=>intro k b _ h;simp at h
 | cons x t ih =>
   intro k b hk h hb
   cases k with
   | zero=>simp at h;subst h;simp [hb]
   | succ k =>
     cases hx:p x with
     | false=>simp [hx] at hk
     | true =>
       simp only [List.takeWhile_cons,hx,if_true,List.length_cons] at hk ⊢;have:=ih (k:=k) (b:=b) (by omega) (by simpa using h) hb;omega
theorem Ra {p:UInt8→Bool} : ∀ {l:List UInt8} {k:Nat} {b:UInt8},k≤(l.takeWhile p).length→l[k]? = some b→p b=false→(l.takeWhile p).length=k:=by
 intro l
 induction l with
 | nil=>intro k b _ h;simp at h
 | cons x t ih =>
   intro k b hk h hb
   cases k with
   | zero=>simp at h;subst h;simp [hb]
   | succ k =>
     cases hx:p x with
     | false=>simp [hx] at hk
     | true =>
       simp only [List.takeWhile_cons,hx,if_true,List.length_cons] at hk ⊢;have:=ih (k:=k) (b:=b) (by omega) (by simpa using h) hb;omega
theorem Yfh {p:UInt8→Bool} {l:List UInt8} {k:Nat} (h:k≤(l.takeWhile p).length) (hk:l.length≤k):(l.takeWhile p).length=k:=by
 have:(l.takeWhile p).length≤l.length:=(List.takeWhile_sublist p).length_le;omega
theorem Ynq {b:UInt8} (h:Lf b=false):b ≠ 9∧b ≠ 10∧b ≠ 13∧b ≠ 32∧b ≠ 44:=by
 unfold Lf at h;simp only [Bool.or_eq_false_iff,beq_eq_false_iff_ne,ne_eq] at h;obtain ⟨⟨⟨⟨a,b⟩,c⟩,d⟩,e⟩:=h;exact ⟨a,b,c,d,e⟩
theorem Yks {b:UInt8} (h:Lf b=true):b=9∨b=10∨b=13∨b=32∨b=44:=by
 unfold Lf at h;simp only [Bool.or_eq_true,beq_iff_eq] at h;rcases h with (((h|h)|h)|h)|h
 · exact .inl h
 · exact .inr (.inl h)
 · exact .inr (.inr (.inl h))
 · exact .inr (.inr (.inr (.inl h)))
 · exact .inr (.inr (.inr (.inr h)))
theorem Ycy {l:List UInt8} (h:pre [239,187,191] l=true):Jy l=3:=by
 cases l with
 | nil=>cases h
 | cons b t =>
   have hb:b=239:=by
    unfold pre at h;simp at h
    exact h.1.symm
   subst hb;rw [Jy,if_neg (by decide),if_neg (by decide),if_pos h]
theorem Tu (s:ByteArray) (i0:Nat) (w:World) (hs:s.size≤9000) (hi:i0≤s.size) :
  Calls Tryz.prog 28 #[.string s,.int .i64 i0] w fun e w'=>e=.returned (.int .i64 ((i0+Gp (s.data.toList.drop i0):Nat):Int))∧w=w':=by
 obtain ⟨R,hR⟩:∃ R,i0+Gp (s.data.toList.drop i0)=R:=⟨_,rfl⟩;rw [hR];have HR:=Hd hR;clear hR
 go_enter Tryz.func28,Tryz.ntmps28
 go_wp2
 go_loopg [1,10,41,47] (s.size - i0) (fun g iv xv yv zv wx=>∃ i:Nat,i+g=s.size∧iv=.int .i64 i∧Aside (i+Gp (s.data.toList.drop i)=R)∧w=wx)
 case atStart=>exact ⟨i0,by omega,rfl,Aside.intro HR.out,rfl⟩
 case round =>
  obtain ⟨i,hig,rfl,H,rfl⟩:=hrel;have hi0:(0:Int)≤(i:Int):=by omega
  by_cases hlt:i < s.size
  · have hlt':(i:Int) < (s.size:Int):=by omega
    have hdr:=Zc s i hlt
    cases hgap:Lf s[i]
    · obtain ⟨n9,n10,n13,n32,n44⟩:=Ynq hgap
      have e9:((s[i].toNat:Int) == 9)=false:=Xo (n:=9) (by omega) n9;have e10:((s[i].toNat:Int) == 10)=false:=Xo (n:=10) (by omega) n10;have e13:((s[i].toNat:Int) == 13)=false:=Xo (n:=13) (by omega) n13;have e32:((s[i].toNat:Int) == 32)=false:=Xo (n:=32) (by omega) n32;have e44:((s[i].toNat:Int) == 44)=false:=Xo (n:=44) (by omega) n44;have hB:=I8 s ⟨#[239,187,191]⟩ i w hs (by show 3≤9000;omega) (by omega)
      cases hbom:pre [239,187,191] (s.data.toList.drop i)
      · rw [show pre (⟨#[239,187,191]⟩:ByteArray).data.toList (s.data.toList.drop i)=false from hbom] at hB
        have HB:=Hd hB
        by_cases h35:s[i]=35
        · have e35:((s[i].toNat:Int) == 35)=true:=by rw [h35];rfl
          have hgl:Jy (s.data.toList.drop i)=((s.data.toList.drop i).takeWhile Jt).length:=by
           rw [hdr,h35,Jy,if_neg (by decide),if_pos (by decide),List.takeWhile_cons,if_pos (by decide),List.length_cons];omega
          obtain ⟨K,hK⟩:∃ K,((s.data.toList.drop i).takeWhile Jt).length=K:=⟨_,rfl⟩;have hK1:1≤K:=by rw [← hK,hdr,h35,List.takeWhile_cons,if_pos (by decide),List.length_cons];omega
          rw [hK] at hgl
          have hN:i+K+Gp (s.data.toList.drop (i+K))=R:=by
           have h:=H.out;rw [Fi (by rw [hgl];omega),hgl,List.drop_drop] at h;omega
          have hKle:i+K≤s.size:=by
           have:=Mc (s.data.toList.drop i);rw [hgl,List.length_drop,Z7] at this;omega
          have HN:=Hd hN;have HK:=Hd hK;clear H hgap hdr n9 n10 n13 n32 n44 hB hbom h35 hgl hN hK;go_wp2_with fail
          refine HB.out.mono ?_;rintro e w1 ⟨rfl,rfl⟩;go_wp2_with fail
          go_loopg [1] (s.size - i) (fun g2 jv wx=>∃ j:Nat,i≤j∧j+g2=s.size∧jv=.int .i64 j∧Aside (j - i≤((s.data.toList.drop i).takeWhile Jt).length)∧w=wx)
          case atStart=>exact ⟨i,Nat.le_refl _,by omega,rfl,Aside.intro (by omega),rfl⟩
          case round =>
           obtain ⟨j,hij,hjg,rfl,HJ,rfl⟩:=hrel;have hj0:(0:Int)≤(j:Int):=by omega
           by_cases hjl:j < s.size
           · have hjl':(j:Int) < (s.size:Int):=by omega
             have hat:(s.data.toList.drop i)[j - i]? = some s[j]:=by
               rw [List.getElem?_drop,show i+(j - i)=j by omega];exact Sb s j hjl
             by_cases j10:s[j]=10
             · have f10:((s[j].toNat:Int) != 10)=false:=by rw [j10];rfl
               have hj:Hid (j=i+K):=Hd (by have h1:=Ra HJ.out hat (by rw [j10];decide);have h2:=HK.out;omega);clear HJ hat j10;go_wp2_with fail
               go_roundg (s.size - (i+K))
               case measure=>omega
               case rel=>exact ⟨i+K,by omega,by rw [hj.out],Aside.intro HN.out,rfl⟩
             · have f10:((s[j].toNat:Int) != 10)=true:=by simpa [bne] using Xo (n:=10) (by omega) j10
               by_cases j13:s[j]=13
               · have f13:((s[j].toNat:Int) != 13)=false:=by rw [j13];rfl
                 have hj:Hid (j=i+K):=Hd (by have h1:=Ra HJ.out hat (by rw [j13];decide);have h2:=HK.out;omega);clear HJ hat j10 j13;go_wp2_with fail
                 go_roundg (s.size - (i+K))
                 case measure=>omega
                 case rel=>exact ⟨i+K,by omega,by rw [hj.out],Aside.intro HN.out,rfl⟩
               · have f13:((s[j].toNat:Int) != 13)=true:=by simpa [bne] using Xo (n:=13) (by omega) j13
                 have hnx:=Hd (Rk HJ.out hat (by simp [Jt,j10,j13]));clear HJ hat j10 j13;go_wp2_with fail
                 go_roundg (s.size - (j+1))
                 case measure=>omega
                 case rel=>exact ⟨j+1,by omega,by omega,by go_num,Aside.intro (by have:=hnx.out;omega),rfl⟩
           · have hjl' : ¬ (j:Int) < (s.size:Int):=by omega
             have hj:Hid (j=i+K):=Hd (by have h1:=Yfh HJ.out (by rw [List.length_drop,Z7];omega);have h2:=HK.out;omega);clear HJ;go_wp2_with fail
             go_roundg (s.size - (i+K))
             case measure=>omega
             case rel=>exact ⟨i+K,by omega,by rw [hj.out],Aside.intro HN.out,rfl⟩
        · have e35:((s[i].toNat:Int) == 35)=false:=Xo (n:=35) (by omega) h35
          have hr:Hid (i=R):=Hd (by
           have h:=H.out;rw [We] at h
           · exact h
           · rw [hdr,Jy,hgap,if_neg (by decide),if_neg (by simpa using h35),← hdr,hbom];rfl)
          clear H hgap hdr n9 n10 n13 n32 n44 hB hbom h35;go_wp2_with fail
          refine HB.out.mono ?_;rintro e w1 ⟨rfl,rfl⟩;go_wp2_with fail
          go_ret
          exact ⟨Jg (by have:=hr.out;omega),rfl⟩
      · rw [show pre (⟨#[239,187,191]⟩:ByteArray).data.toList (s.data.toList.drop i)=true from hbom] at hB
        have HB:=Hd hB
        have h3:i+3≤s.size:=by
          have:=V9 hbom;rw [List.length_drop,Z7] at this;simp at this
          omega
        have HN:=Hd H.out;rw [Fi (by rw [Ycy hbom];omega),Ycy hbom,List.drop_drop] at HN;clear H hgap hdr n9 n10 n13 n32 n44 hB hbom;go_wp2_with fail
        refine HB.out.mono ?_;rintro e w1 ⟨rfl,rfl⟩;go_wp2_with fail
        go_roundg (gk - 3)
        case measure=>omega
        case rel=>exact ⟨i+3,by omega,by go_num,Aside.intro (by have:=HN.out;omega),rfl⟩
    · have hgl:Jy (s.data.toList.drop i)=1:=by rw [hdr,Jy,hgap];rfl
      have HN:=Hd H.out;rw [Fi (by rw [hgl];omega),hgl,List.drop_drop] at HN;have hy:=Yks hgap;clear H hgap hdr hgl;rcases hy with h|h|h|h|h
      · have e9:((s[i].toNat:Int) == 9)=true:=by rw [h];rfl
        clear h;go_wp2_with fail
        go_roundg (gk - 1)
        case measure=>omega
        case rel=>exact ⟨i+1,by omega,by go_num,Aside.intro (by have:=HN.out;omega),rfl⟩
      · have e9:((s[i].toNat:Int) == 9)=false:=by rw [h];rfl
        have e10:((s[i].toNat:Int) == 10)=true:=by rw [h];rfl
        clear h;go_wp2_with fail
        go_roundg (gk - 1)
        case measure=>omega
        case rel=>exact ⟨i+1,by omega,by go_num,Aside.intro (by have:=HN.out;omega),rfl⟩
      · have e9:((s[i].toNat:Int) == 9)=false:=by rw [h];rfl
        have e10:((s[i].toNat:Int) == 10)=false:=by rw [h];rfl
        have e13:((s[i].toNat:Int) == 13)=true:=by rw [h];rfl
        clear h;go_wp2_with fail
        go_roundg (gk - 1)
        case measure=>omega
        case rel=>exact ⟨i+1,by omega,by go_num,Aside.intro (by have:=HN.out;omega),rfl⟩
      · have e9:((s[i].toNat:Int) == 9)=false:=by rw [h];rfl
        have e10:((s[i].toNat:Int) == 10)=false:=by rw [h];rfl
        have e13:((s[i].toNat:Int) == 13)=false:=by rw [h];rfl
        have e32:((s[i].toNat:Int) == 32)=true:=by rw [h];rfl
        clear h;go_wp2_with fail
        go_roundg (gk - 1)
        case measure=>omega
        case rel=>exact ⟨i+1,by omega,by go_num,Aside.intro (by have:=HN.out;omega),rfl⟩
      · have e9:((s[i].toNat:Int) == 9)=false:=by rw [h];rfl
        have e10:((s[i].toNat:Int) == 10)=false:=by rw [h];rfl
        have e13:((s[i].toNat:Int) == 13)=false:=by rw [h];rfl
        have e32:((s[i].toNat:Int) == 32)=false:=by rw [h];rfl
        have e44:((s[i].toNat:Int) == 44)=true:=by rw [h];rfl
        clear h;go_wp2_with fail
        go_roundg (gk - 1)
        case measure=>omega
        case rel=>exact ⟨i+1,by omega,by go_num,Aside.intro (by have:=HN.out;omega),rfl⟩
  · have hge : ¬ (i:Int) < (s.size:Int):=by omega
    have hr:Hid (i=R):=Hd (by have h:=H.out;rw [Ys s i (by omega)] at h;exact h);clear H;go_wp2_with fail
    go_ret
    exact ⟨Jg (by have:=hr.out;omega),rfl⟩
end Go.Proofs.YtkmloefbkgcbkaaGreatDoor
