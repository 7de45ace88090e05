/- The walks of token's lineQuote, blockQuote and quote. -/
import Derived.Test.YtkmloefbkgcbkaaGreatDoorSr16
set_option maxRecDepth 100000
set_option maxHeartbeats 1000000
namespace Go.Proofs.YtkmloefbkgcbkaaGreatDoor
open Go.RowKit
theorem Qd {T e:TypeId} {B b:Nat} {bs:List Value} {w w':World} (h:Lib.IsBuilderF T e B b bs w) (hb:Below w.heap.size w w'):Lib.IsBuilderF T e B b bs w':=by
 have one:∀ p,Lib.BuilderAtF T e B b p bs w→Lib.BuilderAtF T e B b p bs w':=fun p hp=>by
  have hlt:=hp.lt;obtain ⟨hB,v,hc,hown,hne⟩:=hp;exact ⟨hB,v,(hb.block b hlt).trans hc,hown.kept (row:=none) ⟨hb.os,hb.tape,hb.output,hb.size,fun j hj _=>hb.block j hj⟩ (Classical.em _),hne⟩
 exact h.elim (fun x=>.inl (one _ x)) (fun x=>.inr (one _ x))
theorem Zv8:∀ cs:List Int,cs.length≤(Ac cs).length:=by
 intro cs
 induction cs with
 | nil=>simp
 | cons c cs ih =>
   show _≤(Gd c++Ac cs).length;rw [List.length_append,List.length_cons];have:1≤(Gd c).length:=by unfold Gd;split<;>simp
   omega
theorem Zk2:∀ cs:List Int,(Yh cs).length≤4*cs.length:=by
 intro cs
 induction cs with
 | nil=>simp [Yh]
 | cons c cs ih =>
   show (Lib.encodeRune c++Yh cs).length≤_;have:=F4 c;rw [List.length_append,List.length_cons];omega
theorem Ig {us:List Int} {x:List UInt8} (h:Vo us=some x):x.length≤4*us.length:=by
 obtain ⟨cs,hc,rfl⟩:=Option.map_eq_some_iff.1 h;have h1:=(Lg us.length us cs (Nat.le_refl _) hc).1;have h2:=Zv8 cs;have h3:=Zk2 cs;rw [h1] at h2;omega
theorem Zqs {l:List UInt8} {p:List UInt8 × Nat} (h:Ow l=some p):p.1.length≤p.2:=by
 unfold Ow at h
 split at h
 · split at h
   · obtain ⟨x,_,rfl⟩:=Option.map_eq_some_iff.1 h
     simp
   · cases h
 · obtain ⟨x,hx,rfl⟩:=Option.map_eq_some_iff.1 h
   have:=Ig hx;simp only;omega
theorem Tk {x y:ByteArray} {n m:Int} (hx:x=y) (h:n=m):Ending.returned (.tuple #[.string x,.int .i64 n])=.returned (.tuple #[.string y,.int .i64 m]):=by rw [hx,h]
def Wk (o:Option (List UInt8 × Nat)) (m:Nat):Value:=match o with|some q=>.tuple #[.string ⟨q.1.toArray⟩,.int .i64 (m+q.2:Nat)]|none=>.tuple #[.string ⟨#[]⟩,.int .i64 0]
def Jm (l:List UInt8) (k:Nat) (done:List UInt8):Prop:=J7 (l.drop 1)=(J7 (l.drop k)).map fun q=>(done++q.1,(k - 1)+q.2)
theorem Jm.stop {s:ByteArray} {k:Nat} {done:List UInt8} (h:Jm s.data.toList k done) (hk:s.size≤k):J7 (s.data.toList.drop 1)=none:=by
 rw [h,Ys s k hk];rfl
theorem Jm.step {s:ByteArray} {k:Nat} {done:List UInt8} (h:Jm s.data.toList k done) (h1:1≤k) (hk:k < s.size) (a:(s[k] == 34)=false) (b:(s[k] == 10)=false) (c:(s[k] == 13)=false) (d:(s[k] == 92)=false):Jm s.data.toList (k+1) (done++[s[k]]):=by
 unfold Jm at *;rw [h,Zc s k hk,Xf,a,b,c,d];simp only [Bool.or_self,Bool.false_eq_true,if_false,Option.map_map]
 congr 1
 funext q
 simp only [Function.comp,Prod.mk.injEq,List.append_assoc,List.singleton_append,true_and];omega
theorem Jm.esc {s:ByteArray} {k:Nat} {done:List UInt8} {p:List UInt8 × Nat} (h:Jm s.data.toList k done) (h1:1≤k) (hk:k < s.size) (d:(s[k] == 92)=true) (he:Ow (s.data.toList.drop k)=some p):Jm s.data.toList (k+p.2) (done++p.1):=by
 unfold Jm at *;have d':s[k]=92:=by simpa using d
 have hc:s.data.toList.drop k=92 :: s.data.toList.drop (k+1):=by rw [Zc s k hk,d']
 rw [hc] at he h;rw [h,Xf,he,← hc];simp only [show ((92:UInt8) == 34)=false from rfl,show ((92:UInt8) == 10 || (92:UInt8) == 13)=false from rfl,show ((92:UInt8) == 92)=true from rfl,Bool.false_eq_true,if_false,if_true,Option.map_map,List.drop_drop]
 congr 1
 funext q
 simp only [Function.comp,Prod.mk.injEq,List.append_assoc,true_and];omega
theorem Jm.bad {s:ByteArray} {k:Nat} {done:List UInt8} (h:Jm s.data.toList k done) (hk:k < s.size) (d:(s[k] == 92)=true) (he:Ow (s.data.toList.drop k)=none):J7 (s.data.toList.drop 1)=none:=by
 unfold Jm at *;have d':s[k]=92:=by simpa using d
 have hc:s.data.toList.drop k=92 :: s.data.toList.drop (k+1):=by rw [Zc s k hk,d']
 rw [hc] at he h;rw [h,Xf,he]
 rfl
theorem Jm.eol {s:ByteArray} {k:Nat} {done:List UInt8} (h:Jm s.data.toList k done) (hk:k < s.size) (a:(s[k] == 34)=false) (b:(s[k] == 10 || s[k] == 13)=true):J7 (s.data.toList.drop 1)=none:=by
 unfold Jm at *;rw [h,Zc s k hk,Xf,a,b]
 rfl
theorem Jm.fin {s:ByteArray} {k:Nat} {done:List UInt8} (h:Jm s.data.toList k done) (h1:1≤k) (hk:k < s.size) (a:(s[k] == 34)=true):J7 (s.data.toList.drop 1)=some (done,k):=by
 unfold Jm at *;rw [h,Zc s k hk,Xf,a];simp
 omega
theorem Ygc (s:ByteArray) (w:World) (hs:s.size≤9000) (hs1:1≤s.size) (h3:Ue w):Calls Tryz.prog 83 #[.string s] w fun e w'=>e=.returned (Wk (J7 (s.data.toList.drop 1)) 1)∧Below w.heap.size w w':=by
 have H3:=Hd h3;clear h3
 go_enter Tryz.func83,Tryz.ntmps83
 go_wp2
 go_loopg [5] (s.size - 1) (fun g i wx=>∃ (k:Nat) (done:List UInt8),k+g=s.size∧1≤k∧i=.int .i64 k∧done.length≤k∧Below w.heap.size w wx∧Aside (Lib.IsBuilderF 137 5 w.heap.size w.heap.size (Lib.byteCells done) wx)∧Aside (Jm s.data.toList k done))
 case atStart=>exact ⟨1,[],by omega,by omega,rfl,by simp,(Below.refl _ _).alloc (Nat.le_refl _) _,Aside.intro (Lib.IsBuilderF.of (Lib.fresh_isBuilder _ _ _)),Aside.intro (by unfold Jm;cases J7 (s.data.toList.drop 1)<;>simp)⟩
 case round =>
  obtain ⟨k,done,hk,hk1,rfl,hdl,hb,HBU,HT⟩:=hrel;have hbs:=hb.size;have H3r:=Hd (H3.out.below hb);have HB:=Hd hb;clear hb
  by_cases hlt:k < s.size
  · have hlt' : (k:Int) < (s.size:Int):=by omega
    cases c34:(s[k] == 34)
    · obtain ⟨a1,a2⟩:=On c34 34 rfl
      cases c10:(s[k] == 10)
      · obtain ⟨b1,b2⟩:=On c10 10 rfl
        cases c13:(s[k] == 13)
        · obtain ⟨d1,d2⟩:=On c13 13 rfl
          cases c92:(s[k] == 92)
          · obtain ⟨e1,e2⟩:=On c92 92 rfl
            have hT:=Hd (HT.out.step hk1 hlt c34 c10 c13 c92);have HW:=Hd (Su w.heap.size w.heap.size (Lib.byteCells done) (s[k].toNat:Int) wr HBU.out (by rw [Lib.byteCells_length];omega) hbs);clear HT HBU c34 c10 c13 c92;go_wp2_with fail
            refine HW.out.mono ?_;rintro e w2 ⟨rfl,hB2,hb2,_⟩;have HB2:=Hd hB2;have HBb:=Hd hb2;clear hB2 hb2;go_wp2_with fail
            go_roundg (gk - 1)
            case measure=>omega
            case rel=>exact ⟨k+1,done++[s[k]],by omega,by omega,by go_num,by simp;omega,HB.out.trans HBb.out,Aside.intro (.inr (by have:=HB2.out;rwa [show Lib.byteCells done++[Value.int .u8 (s[k].toNat:Int)]=Lib.byteCells (done++[s[k]]) by simp [Lib.byteCells]] at this)),Aside.intro hT.out⟩
          · obtain ⟨e1,e2⟩:=Oo c92 92 rfl
            have hE:=Zj5 (s.extract k s.size) wr (by rw [Ur];omega) H3r.out;rw [Xm] at hE;unfold Yat at hE
            cases he:Ow (s.data.toList.drop k) with
            | none =>
              rw [he] at hE;have HE:=Hd hE;have hr:Hid (Wk (J7 (s.data.toList.drop 1)) 1=.tuple #[.string ⟨#[]⟩,.int .i64 0]):=Hd (by rw [HT.out.bad hlt c92 he];rfl);clear HT HBU c34 c10 c13 c92 hE he;go_wp2_with fail
              refine HE.out.mono ?_;rintro e w2 ⟨rfl,hb2⟩;have HBb:=Hd hb2;clear hb2;go_wp2_with fail
              go_ret2
              exact ⟨by rw [hr.out];rfl,HB.out.trans (HBb.out.mono hbs)⟩
            | some p =>
              obtain ⟨x,n⟩:=p;have hT:=Hd (HT.out.esc hk1 hlt c92 he);have hpl:=Zqs he;have hp2:=S6 he;rw [List.length_drop,Z7] at hp2;simp only at hpl hp2;rw [he] at hE;have HE:=Hd hE;have n0:((n:Int) == 0)=false:=by simp;omega
              clear HT c34 c10 c13 c92 hE he;go_wp2_with fail
              refine HE.out.mono ?_;rintro e w2 ⟨rfl,hb2⟩;have HW:=Hd (Mn w.heap.size w.heap.size (Lib.byteCells done) ⟨x.toArray⟩ w2 (Qd HBU.out hb2) (by rw [Lib.byteCells_length,Qc];omega) (by have:=hb2.size;omega));have HBb:=Hd hb2;have hb2s:=hb2.size;clear hb2 HBU;go_wp2_with fail
              refine HW.out.mono ?_;rintro e w3 ⟨rfl,hB3,hb3,_⟩;have HB3:=Hd hB3;have HBc:=Hd hb3;clear hB3 hb3;go_wp2_with fail
              go_roundg (gk - n)
              case measure=>omega
              case rel=>exact ⟨k+n,done++x,by omega,by omega,by go_num,by simp;omega,HB.out.trans ((HBb.out.mono hbs).trans HBc.out),Aside.intro (.inr (by have:=HB3.out;rwa [show Lib.byteCells done++Lib.strCells ⟨x.toArray⟩=Lib.byteCells (done++x) by rw [Lib.strCells_eq];simp [Lib.byteCells]] at this)),Aside.intro hT.out⟩
        · obtain ⟨d1,d2⟩:=Oo c13 13 rfl
          have hr:Hid (Wk (J7 (s.data.toList.drop 1)) 1=.tuple #[.string ⟨#[]⟩,.int .i64 0]):=Hd (by rw [HT.out.eol hlt c34 (by rw [c13,Bool.or_true])];rfl);clear HT HBU c34 c10 c13;go_wp2_with fail
          go_ret2
          exact ⟨by rw [hr.out];rfl,HB.out⟩
      · obtain ⟨b1,b2⟩:=Oo c10 10 rfl
        have hr:Hid (Wk (J7 (s.data.toList.drop 1)) 1=.tuple #[.string ⟨#[]⟩,.int .i64 0]):=Hd (by rw [HT.out.eol hlt c34 (by rw [c10,Bool.true_or])];rfl);clear HT HBU c34 c10;go_wp2_with fail
        go_ret2
        exact ⟨by rw [hr.out];rfl,HB.out⟩
    · obtain ⟨a1,a2⟩:=Oo c34 34 rfl
      have hr:Hid (Wk (J7 (s.data.toList.drop 1)) 1=.tuple #[.string ⟨done.toArray⟩,.int .i64 (1+k:Nat)]):=Hd (by rw [HT.out.fin hk1 hlt c34];rfl);have HC:=Hd (C6 w.heap.size w.heap.size done wr HBU.out hbs);clear HT HBU c34;go_wp2_with fail
      refine HC.out.mono ?_;rintro e w2 ⟨rfl,_,hb2,_⟩;have HBb:=Hd hb2;clear hb2;go_wp2_with fail
      go_ret2
      exact ⟨by rw [hr.out];exact Tk rfl (by omega),HB.out.trans HBb.out⟩
  · obtain rfl:k=s.size:=by omega
    have hr:Hid (Wk (J7 (s.data.toList.drop 1)) 1=.tuple #[.string ⟨#[]⟩,.int .i64 0]):=Hd (by rw [HT.out.stop (Nat.le_refl _)];rfl);clear HT HBU;go_wp2_with fail
    go_ret2
    exact ⟨by rw [hr.out];rfl,HB.out⟩
def Gy (l:List UInt8) (k:Nat) (done:List UInt8):Prop:=Pb (l.drop 3)=(Pb (l.drop k)).map fun q=>(done++q.1,(k - 3)+q.2)
theorem Gy.stop {s:ByteArray} {k:Nat} {done:List UInt8} (h:Gy s.data.toList k done) (hk:s.size≤k):Pb (s.data.toList.drop 3)=none:=by
 rw [h,Ys s k hk];rfl
theorem Gy.step {s:ByteArray} {k:Nat} {done:List UInt8} (h:Gy s.data.toList k done) (h3:3≤k) (hk:k < s.size) (a:pre [34,34,34] (s.data.toList.drop k)=false) (b:pre [92,34,34,34] (s.data.toList.drop k)=false):Gy s.data.toList (k+1) (done++[s[k]]):=by
 unfold Gy at *;rw [Zc s k hk] at a b;rw [h,Zc s k hk,W7,a,b];simp only [Bool.false_eq_true,if_false,Option.map_map]
 congr 1
 funext q
 simp only [Function.comp,Prod.mk.injEq,List.append_assoc,List.singleton_append,true_and];omega
theorem Gy.four {s:ByteArray} {k:Nat} {done:List UInt8} (h:Gy s.data.toList k done) (h3:3≤k) (hk:k < s.size) (a:pre [34,34,34] (s.data.toList.drop k)=false) (b:pre [92,34,34,34] (s.data.toList.drop k)=true):Gy s.data.toList (k+4) (done++[34,34,34]):=by
 unfold Gy at *;have hd:s.data.toList.drop (k+4)=(s[k] :: s.data.toList.drop (k+1)).drop 4:=by rw [← Zc s k hk,List.drop_drop]
 rw [Zc s k hk] at a b;rw [hd,h,Zc s k hk,W7,a,b];simp only [Bool.false_eq_true,if_false,if_true,Option.map_map]
 congr 1
 funext q
 simp only [Function.comp,Prod.mk.injEq,List.append_assoc,true_and];omega
theorem Gy.fin {s:ByteArray} {k:Nat} {done:List UInt8} (h:Gy s.data.toList k done) (hk:k < s.size) (a:pre [34,34,34] (s.data.toList.drop k)=true):Pb (s.data.toList.drop 3)=some (done,k - 3+3):=by
 unfold Gy at *;rw [Zc s k hk] at a;rw [h,Zc s k hk,W7,a];simp
theorem Qu (s q:ByteArray) (k:Nat) (w:World) (b:Bool) (h:pre q.data.toList (s.data.toList.drop k)=b):Calls Tryz.prog 74 #[.string (s.extract k s.size),.string q] w fun e w'=>e=.returned (.bool b)∧w=w':=
 Yav (s.extract k s.size) q w b (by rw [Xm];exact h)
def Ot (l:List UInt8):Option (List UInt8 × Nat):=(Pb (l.drop 3)).map fun q=>(Blk.valueL q.1,q.2)
theorem Yah (s:ByteArray) (w:World) (hs:s.size≤9000) (hs3:3≤s.size):Calls Tryz.prog 82 #[.string s] w fun e w'=>e=.returned (Wk (Ot s.data.toList) 3)∧Below w.heap.size w w':=by
 go_enter Tryz.func82,Tryz.ntmps82
 go_wp2
 go_loopg [5] (s.size - 3) (fun g i wx=>∃ (k:Nat) (done:List UInt8),k+g=s.size∧3≤k∧i=.int .i64 k∧done.length≤k∧Below w.heap.size w wx∧Aside (Lib.IsBuilderF 137 5 w.heap.size w.heap.size (Lib.byteCells done) wx)∧Aside (Gy s.data.toList k done))
 case atStart=>exact ⟨3,[],by omega,by omega,rfl,by simp,(Below.refl _ _).alloc (Nat.le_refl _) _,Aside.intro (Lib.IsBuilderF.of (Lib.fresh_isBuilder _ _ _)),Aside.intro (by unfold Gy;cases Pb (s.data.toList.drop 3)<;>simp)⟩
 case round =>
  obtain ⟨k,done,hk,hk3,rfl,hdl,hb,HBU,HT⟩:=hrel;have hbs:=hb.size;have HB:=Hd hb;clear hb
  by_cases hlt:k < s.size
  · have hlt':(k:Int) < (s.size:Int):=by omega
    have hk0:(0:Int)≤(k:Int):=by omega
    have hks:(k:Int)≤(s.size:Int):=by omega
    cases a:pre [34,34,34] (s.data.toList.drop k)
    · have HA:=Hd (Qu s ⟨#[34,34,34]⟩ k wr false a)
      cases b:pre [92,34,34,34] (s.data.toList.drop k)
      · have HQ:=Hd (Qu s ⟨#[92,34,34,34]⟩ k wr false b)
        have hT:=Hd (HT.out.step hk3 hlt a b);have HW:=Hd (Su w.heap.size w.heap.size (Lib.byteCells done) (s[k].toNat:Int) wr HBU.out (by rw [Lib.byteCells_length];omega) hbs);clear HT HBU a b;go_wp2_with fail
        refine HA.out.mono ?_;rintro e w2 ⟨rfl,rfl⟩;go_wp2_with fail
        refine HQ.out.mono ?_;rintro e w2 ⟨rfl,rfl⟩;go_wp2_with fail
        refine HW.out.mono ?_;rintro e w2 ⟨rfl,hB2,hb2,_⟩;have HB2:=Hd hB2;have HBb:=Hd hb2;clear hB2 hb2;go_wp2_with fail
        go_roundg (gk - 1)
        case measure=>omega
        case rel=>exact ⟨k+1,done++[s[k]],by omega,by omega,by go_num,by simp;omega,HB.out.trans HBb.out,Aside.intro (.inr (by have:=HB2.out;rwa [show Lib.byteCells done++[Value.int .u8 (s[k].toNat:Int)]=Lib.byteCells (done++[s[k]]) by simp [Lib.byteCells]] at this)),Aside.intro hT.out⟩
      · have HQ:=Hd (Qu s ⟨#[92,34,34,34]⟩ k wr true b)
        have hT:=Hd (HT.out.four hk3 hlt a b);have hk4:k+4≤s.size:=by have:=V9 b;rw [List.length_drop,Z7] at this;simp at this;omega
        have HW:=Hd (Mn w.heap.size w.heap.size (Lib.byteCells done) ⟨#[34,34,34]⟩ wr HBU.out (by rw [Lib.byteCells_length];show done.length+3≤_;omega) hbs);clear HT HBU a b;go_wp2_with fail
        refine HA.out.mono ?_;rintro e w2 ⟨rfl,rfl⟩;go_wp2_with fail
        refine HQ.out.mono ?_;rintro e w2 ⟨rfl,rfl⟩;go_wp2_with fail
        refine HW.out.mono ?_;rintro e w2 ⟨rfl,hB2,hb2,_⟩;have HB2:=Hd hB2;have HBb:=Hd hb2;clear hB2 hb2;go_wp2_with fail
        go_roundg (gk - 4)
        case measure=>omega
        case rel=>exact ⟨k+4,done++[34,34,34],by omega,by omega,by go_num,by simp;omega,HB.out.trans HBb.out,Aside.intro (.inr (by have:=HB2.out;rwa [show Lib.byteCells done++Lib.strCells ⟨#[34,34,34]⟩=Lib.byteCells (done++[34,34,34]) by rw [Lib.strCells_eq];simp [Lib.byteCells]] at this)),Aside.intro hT.out⟩
    · have HA:=Hd (Qu s ⟨#[34,34,34]⟩ k wr true a)
      have hr:Hid (Wk (Ot s.data.toList) 3=.tuple #[.string ⟨(Blk.valueL done).toArray⟩,.int .i64 (3+(k - 3+3):Nat)]):=Hd (by rw [Ot,HT.out.fin hlt a];rfl);have HC:=Hd (C6 w.heap.size w.heap.size done wr HBU.out hbs);clear HT HBU a;go_wp2_with fail
      refine HA.out.mono ?_;rintro e w2 ⟨rfl,rfl⟩;go_wp2_with fail
      refine HC.out.mono ?_;rintro e w2 ⟨rfl,_,hb2,_⟩;have HV:=Hd (Blk.pvalue ⟨done.toArray⟩ w2 (by rw [Qc];omega));have HBb:=Hd hb2;have hb2s:=hb2.size;clear hb2;go_wp2_with fail
      refine HV.out.mono ?_;rintro e w3 ⟨rfl,hb3⟩;have HBc:=Hd hb3;clear hb3;go_wp2_with fail
      go_ret2
      exact ⟨by rw [hr.out];exact Tk rfl (by omega),HB.out.trans (HBb.out.trans (HBc.out.mono (by omega)))⟩
  · obtain rfl:k=s.size:=by omega
    have hr:Hid (Wk (Ot s.data.toList) 3=.tuple #[.string ⟨#[]⟩,.int .i64 0]):=Hd (by rw [Ot,HT.out.stop (Nat.le_refl _)];rfl);clear HT HBU;go_wp2_with fail
    go_ret2
    exact ⟨by rw [hr.out];rfl,HB.out⟩
def Lc (l:List UInt8):Value:=match Xx l with|some q=>Zzh 5 q.1 q.2|none=>Zzh 5 [] 0
theorem Ydx (l:List UInt8):Xx l=if pre [34,34,34] l then (Ot l).map fun q=>(q.1,3+q.2) else if Jh (fun b=>b == 34) l then (J7 (l.drop 1)).map fun q=>(q.1,1+q.2) else none:=by
 cases l with
 | nil=>rfl
 | cons b t =>
   simp only [Xx,Ot,Option.map_map]
   rfl
abbrev Yc0 (k:Int) (x:ByteArray):Obj:=.cells #[.int .i64 k,.string x] 45
theorem Jp {w:World} {b:Nat} {k x:Value} (h:w.heap[b]? = some (.cells #[k,x] 45 (0,0))):w.cell? ⟨b,0,none⟩=some k∧w.cell? ⟨b,1,none⟩=some x∧w.frozen? ⟨b,0,none⟩=false∧w.frozen? ⟨b,1,none⟩=false:=by
 simp [World.cell?,World.frozen?,h]
theorem Ls {w:World} {b:Nat} {k x k' x':Value} (h:w.heap[b]? = some (.cells #[k,x] 45 (0,0))):((w.setCell ⟨b,0,none⟩ k').setCell ⟨b,1,none⟩ x').heap[b]? = some (.cells #[k',x'] 45 (0,0)):=by
 simp [World.setCell,Array.getElem?_modify,h]
theorem Ybp (s:ByteArray) (w:World) (hs:s.size≤9000) (h3:Ue w):Calls Tryz.prog 42 #[.string s] w fun e w'=>e=.returned (Lc s.data.toList)∧Below w.heap.size w w':=by
 have H3:=Hd (h3.alloc (Yc0 0 ⟨#[]⟩));have HE:=Hd (Ydx s.data.toList)
 cases a:pre [34,34,34] s.data.toList
 · have HA:=Hd (Yav s ⟨#[34,34,34]⟩ (w.alloc (Yc0 0 ⟨#[]⟩)) false a)
   cases b:Jh (fun b=>b == 34) s.data.toList
   · have HQ:=Hd (Yav s ⟨#[34]⟩ (w.alloc (Yc0 0 ⟨#[]⟩)) false ((Bz 34 _).trans b))
     have hr:Hid (Lc s.data.toList=Zzh 5 [] 0):=Hd (by rw [Lc,HE.out,a,b];rfl);clear a b h3
     go_enter Tryz.func42,Tryz.ntmps42
     go_wp2_with fail
     refine HA.out.mono ?_;rintro e w2 ⟨rfl,rfl⟩;go_wp2_with fail
     refine HQ.out.mono ?_;rintro e w2 ⟨rfl,rfl⟩;go_wp2_with fail
     refine Jk rfl rfl rfl (heap_alloc_last _ _) ⟨?_,Y5⟩;rw [hr.out]
     rfl
   · have HQ:=Hd (Yav s ⟨#[34]⟩ (w.alloc (Yc0 0 ⟨#[]⟩)) true ((Bz 34 _).trans b))
     have h1:1≤s.size:=by
       rcases Nat.eq_zero_or_pos s.size with h|h
       · rw [Jb h] at b;cases b
       · exact h
     have hL:=Ygc s (w.alloc (Yc0 0 ⟨#[]⟩)) hs h1 H3.out
     cases hl:J7 (s.data.toList.drop 1) with
     | none =>
       have hr:Hid (Lc s.data.toList=Zzh 5 [] 0):=Hd (by rw [Lc,HE.out,a,b,hl];rfl);simp only [hl,Wk] at hL;have HL:=Hd hL;clear a b h3 hL hl
       go_enter Tryz.func42,Tryz.ntmps42
       go_wp2_with fail
       refine HA.out.mono ?_;rintro e w2 ⟨rfl,rfl⟩;go_wp2_with fail
       refine HQ.out.mono ?_;rintro e w2 ⟨rfl,rfl⟩;go_wp2_with fail
       refine HL.out.mono ?_;rintro e w2 ⟨rfl,hb2⟩;have hc0:w2.heap[w.heap.size]? = some (Yc0 0 ⟨#[]⟩):=(hb2.block w.heap.size (by simp)).trans (heap_alloc_last _ _);obtain ⟨c0,c1,f0,f1⟩:=Jp hc0;have HC0:=Hd hc0;have HBb:=Hd hb2;clear hc0 hb2;go_wp2_with fail
       refine Jk rfl rfl rfl (Ls HC0.out) ⟨?_,((Y5.trans (HBb.out.mono (by simp))).setCell (Nat.le_refl _) _).setCell (Nat.le_refl _) _⟩;rw [hr.out]
       rfl
     | some q =>
       obtain ⟨x,n⟩:=q;obtain ⟨n1,hn1⟩:∃ n1,1+n=n1:=⟨_,rfl⟩;have hr:Hid (Lc s.data.toList=Zzh 5 x n1):=Hd (by rw [Lc,HE.out,a,b,hl,← hn1];rfl);simp only [hl,Wk] at hL;rw [hn1] at hL;have HL:=Hd hL;have n0:((n1:Int) == 0)=false:=by simp;omega
       clear a b h3 hL hl
       go_enter Tryz.func42,Tryz.ntmps42
       go_wp2_with fail
       refine HA.out.mono ?_;rintro e w2 ⟨rfl,rfl⟩;go_wp2_with fail
       refine HQ.out.mono ?_;rintro e w2 ⟨rfl,rfl⟩;go_wp2_with fail
       refine HL.out.mono ?_;rintro e w2 ⟨rfl,hb2⟩;have hc0:w2.heap[w.heap.size]? = some (Yc0 0 ⟨#[]⟩):=(hb2.block w.heap.size (by simp)).trans (heap_alloc_last _ _);obtain ⟨c0,c1,f0,f1⟩:=Jp hc0;have HC0:=Hd hc0;have HBb:=Hd hb2;clear hc0 hb2;go_wp2_with fail
       refine Jk rfl rfl rfl (Ls HC0.out) ⟨?_,((Y5.trans (HBb.out.mono (by simp))).setCell (Nat.le_refl _) _).setCell (Nat.le_refl _) _⟩;rw [hr.out,Il (by omega)]
       rfl
 · have HA:=Hd (Yav s ⟨#[34,34,34]⟩ (w.alloc (Yc0 0 ⟨#[]⟩)) true a)
   have h3s:3≤s.size:=by have:=V9 a;rw [Z7] at this;exact this
   have hL:=Yah s (w.alloc (Yc0 0 ⟨#[]⟩)) hs h3s
   cases hl:Ot s.data.toList with
   | none =>
       have hr:Hid (Lc s.data.toList=Zzh 5 [] 0):=Hd (by rw [Lc,HE.out,a,hl];rfl);simp only [hl,Wk] at hL;have HL:=Hd hL;clear a h3 hL hl
       go_enter Tryz.func42,Tryz.ntmps42
       go_wp2_with fail
       refine HA.out.mono ?_;rintro e w2 ⟨rfl,rfl⟩;go_wp2_with fail
       refine HL.out.mono ?_;rintro e w2 ⟨rfl,hb2⟩;have hc0:w2.heap[w.heap.size]? = some (Yc0 0 ⟨#[]⟩):=(hb2.block w.heap.size (by simp)).trans (heap_alloc_last _ _);obtain ⟨c0,c1,f0,f1⟩:=Jp hc0;have HC0:=Hd hc0;have HBb:=Hd hb2;clear hc0 hb2;go_wp2_with fail
       refine Jk rfl rfl rfl (Ls HC0.out) ⟨?_,((Y5.trans (HBb.out.mono (by simp))).setCell (Nat.le_refl _) _).setCell (Nat.le_refl _) _⟩;rw [hr.out]
       rfl
   | some q =>
       obtain ⟨x,n⟩:=q;obtain ⟨n1,hn1⟩:∃ n1,3+n=n1:=⟨_,rfl⟩;have hr:Hid (Lc s.data.toList=Zzh 5 x n1):=Hd (by rw [Lc,HE.out,a,hl,← hn1];rfl);simp only [hl,Wk] at hL;rw [hn1] at hL;have HL:=Hd hL;have n0:((n1:Int) == 0)=false:=by simp;omega
       clear a h3 hL hl
       go_enter Tryz.func42,Tryz.ntmps42
       go_wp2_with fail
       refine HA.out.mono ?_;rintro e w2 ⟨rfl,rfl⟩;go_wp2_with fail
       refine HL.out.mono ?_;rintro e w2 ⟨rfl,hb2⟩;have hc0:w2.heap[w.heap.size]? = some (Yc0 0 ⟨#[]⟩):=(hb2.block w.heap.size (by simp)).trans (heap_alloc_last _ _);obtain ⟨c0,c1,f0,f1⟩:=Jp hc0;have HC0:=Hd hc0;have HBb:=Hd hb2;clear hc0 hb2;go_wp2_with fail
       refine Jk rfl rfl rfl (Ls HC0.out) ⟨?_,((Y5.trans (HBb.out.mono (by simp))).setCell (Nat.le_refl _) _).setCell (Nat.le_refl _) _⟩;rw [hr.out,Il (by omega)]
       rfl
end Go.Proofs.YtkmloefbkgcbkaaGreatDoor
