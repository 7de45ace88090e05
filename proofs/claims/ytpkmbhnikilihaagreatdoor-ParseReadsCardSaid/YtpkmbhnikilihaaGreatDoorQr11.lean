/- The walks of token's lineQuote, blockQuote and quote. -/
import Derived.Test.YtpkmbhnikilihaaGreatDoorQr10
set_option maxRecDepth 100000
set_option maxHeartbeats 4000000
namespace Go.Proofs.YtpkmbhnikilihaaGreatDoor
open Go.RowKit
theorem Q4 {T e:TypeId} {B b:Nat} {bs:List Value} {w w':World} (h:Lib.IsBuilderF T e B b bs w) (hb:Below w.heap.size w w'):Lib.IsBuilderF T e B b bs w':=by
 have one:∀ p,Lib.BuilderAtF T e B b p bs w→Lib.BuilderAtF T e B b p bs w':=fun p hp=>by
  have hlt:=hp.lt
  obtain ⟨hB,v,hc,hown,hne⟩:=hp
  exact ⟨hB,v,(hb.block b hlt).trans hc,hown.kept (row:=none) ⟨hb.os,hb.tape,hb.output,hb.size,fun j hj _=>hb.block j hj⟩ (Classical.em _),hne⟩
 exact h.elim (fun x=>.inl (one _ x)) (fun x=>.inr (one _ x))
theorem Zxj:∀ cs:List Int,cs.length≤(Aj cs).length:=by
 intro cs
 induction cs with
 | nil=>simp
 | cons c cs ih =>
   show _≤(Gp c++Aj cs).length
   rw [List.length_append,List.length_cons]
   have:1≤(Gp c).length:=by unfold Gp;split<;>simp
   omega
theorem Zz2:∀ cs:List Int,(Yf cs).length≤4*cs.length:=by
 intro cs
 induction cs with
 | nil=>simp [Yf]
 | cons c cs ih =>
   show (Lib.encodeRune c++Yf cs).length≤_
   have:=Fe c
   rw [List.length_append,List.length_cons]
   omega
theorem I6 {us:List Int} {x:List UInt8} (h:Vq us=some x):x.length≤4*us.length:=by
 obtain ⟨cs,hc,rfl⟩:=Option.map_eq_some_iff.1 h
 have h1:=(Lr us.length us cs (Nat.le_refl _) hc).1
 have h2:=Zxj cs
 have h3:=Zz2 cs
 rw [h1] at h2
 omega
theorem Tk {l:List UInt8} {p:List UInt8 × Nat} (h:Ot l=some p):p.1.length≤p.2:=by
 unfold Ot at h
 split at h
 · split at h
   · obtain ⟨x,_,rfl⟩:=Option.map_eq_some_iff.1 h
     simp
   · cases h
 · obtain ⟨x,hx,rfl⟩:=Option.map_eq_some_iff.1 h
   have:=I6 hx
   simp only
   omega
theorem Rl {x y:ByteArray} {n m:Int} (hx:x=y) (h:n=m):Ending.returned (.tuple #[.string x,.int .i64 n])=.returned (.tuple #[.string y,.int .i64 m]):=by rw [hx,h]
def Wt (o:Option (List UInt8 × Nat)) (m:Nat):Value:=match o with|some q=>.tuple #[.string ⟨q.1.toArray⟩,.int .i64 (m+q.2:Nat)]|none=>.tuple #[.string ⟨#[]⟩,.int .i64 0]
def Ju (l:List UInt8) (k:Nat) (done:List UInt8):Prop:=J5 (l.drop 1)=(J5 (l.drop k)).map fun q=>(done++q.1,(k - 1)+q.2)
theorem Ju.stop {s:ByteArray} {k:Nat} {done:List UInt8} (h:Ju s.data.toList k done) (hk:s.size≤k):J5 (s.data.toList.drop 1)=none:=by
 rw [h,Yp s k hk];rfl
theorem Ju.step {s:ByteArray} {k:Nat} {done:List UInt8} (h:Ju s.data.toList k done) (h1:1≤k) (hk:k < s.size) (a:(s[k] == 34)=false) (b:(s[k] == 10)=false) (c:(s[k] == 13)=false) (d:(s[k] == 92)=false):Ju s.data.toList (k+1) (done++[s[k]]):=by
 unfold Ju at *
 rw [h,Z9 s k hk,Xg,a,b,c,d]
 simp only [Bool.or_self,Bool.false_eq_true,if_false,Option.map_map]
 congr 1
 funext q
 simp only [Function.comp,Prod.mk.injEq,List.append_assoc,List.singleton_append,true_and]
 omega
theorem Ju.esc {s:ByteArray} {k:Nat} {done:List UInt8} {p:List UInt8 × Nat} (h:Ju s.data.toList k done) (h1:1≤k) (hk:k < s.size) (d:(s[k] == 92)=true) (he:Ot (s.data.toList.drop k)=some p):Ju s.data.toList (k+p.2) (done++p.1):=by
 unfold Ju at *
 have d':s[k]=92:=by simpa using d
 have hc:s.data.toList.drop k=92 :: s.data.toList.drop (k+1):=by rw [Z9 s k hk,d']
 rw [hc] at he h
 rw [h,Xg,he,← hc]
 simp only [show ((92:UInt8) == 34)=false from rfl,show ((92:UInt8) == 10 || (92:UInt8) == 13)=false from rfl,show ((92:UInt8) == 92)=true from rfl,Bool.false_eq_true,if_false,if_true,Option.map_map,List.drop_drop]
 congr 1
 funext q
 simp only [Function.comp,Prod.mk.injEq,List.append_assoc,true_and]
 omega
theorem Ju.bad {s:ByteArray} {k:Nat} {done:List UInt8} (h:Ju s.data.toList k done) (hk:k < s.size) (d:(s[k] == 92)=true) (he:Ot (s.data.toList.drop k)=none):J5 (s.data.toList.drop 1)=none:=by
 unfold Ju at *
 have d':s[k]=92:=by simpa using d
 have hc:s.data.toList.drop k=92 :: s.data.toList.drop (k+1):=by rw [Z9 s k hk,d']
 rw [hc] at he h
 rw [h,Xg,he]
 rfl
theorem Ju.eol {s:ByteArray} {k:Nat} {done:List UInt8} (h:Ju s.data.toList k done) (hk:k < s.size) (a:(s[k] == 34)=false) (b:(s[k] == 10 || s[k] == 13)=true):J5 (s.data.toList.drop 1)=none:=by
 unfold Ju at *
 rw [h,Z9 s k hk,Xg,a,b]
 rfl
theorem Ju.fin {s:ByteArray} {k:Nat} {done:List UInt8} (h:Ju s.data.toList k done) (h1:1≤k) (hk:k < s.size) (a:(s[k] == 34)=true):J5 (s.data.toList.drop 1)=some (done,k):=by
 unfold Ju at *
 rw [h,Z9 s k hk,Xg,a]
 simp
 omega
theorem Ydt (s:ByteArray) (w:World) (hs:s.size≤9000) (hs1:1≤s.size) (h3:Jw w):Calls Tryz.prog 230 #[.string s] w fun e w'=>e=.returned (Wt (J5 (s.data.toList.drop 1)) 1)∧Below w.heap.size w w':=by
 have H3:=Hd h3
 clear h3
 go_enter Tryz.func230,Tryz.ntmps230
 go_wp2
 go_loopg [5] (s.size - 1) (fun g i wx=>∃ (k:Nat) (done:List UInt8),k+g=s.size∧1≤k∧i=.int .i64 k∧done.length≤k∧Below w.heap.size w wx∧Aside (Lib.IsBuilderF 102 5 w.heap.size w.heap.size (Lib.byteCells done) wx)∧Aside (Ju s.data.toList k done))
 case atStart=>exact ⟨1,[],by omega,by omega,rfl,by simp,(Below.refl _ _).alloc (Nat.le_refl _) _,Aside.intro (Lib.IsBuilderF.of (Lib.fresh_isBuilder _ _ _)),Aside.intro (by unfold Ju;cases J5 (s.data.toList.drop 1)<;>simp)⟩
 case round =>
  obtain ⟨k,done,hk,hk1,rfl,hdl,hb,HBU,HT⟩:=hrel
  have hbs:=hb.size
  have H3r:=Hd (H3.out.below hb)
  have HB:=Hd hb
  clear hb
  by_cases hlt:k < s.size
  · have hlt' : (k:Int) < (s.size:Int):=by omega
    cases c34:(s[k] == 34)
    · obtain ⟨a1,a2⟩:=Ow c34 34 rfl
      cases c10:(s[k] == 10)
      · obtain ⟨b1,b2⟩:=Ow c10 10 rfl
        cases c13:(s[k] == 13)
        · obtain ⟨d1,d2⟩:=Ow c13 13 rfl
          cases c92:(s[k] == 92)
          · obtain ⟨e1,e2⟩:=Ow c92 92 rfl
            have hT:=Hd (HT.out.step hk1 hlt c34 c10 c13 c92)
            have HW:=Hd (Sa w.heap.size w.heap.size (Lib.byteCells done) (s[k].toNat:Int) wr HBU.out (by rw [Lib.byteCells_length];omega) hbs)
            clear HT HBU c34 c10 c13 c92
            go_wp2_with fail
            refine HW.out.mono ?_
            rintro e w2 ⟨rfl,hB2,hb2,_⟩
            have HB2:=Hd hB2
            have HBb:=Hd hb2
            clear hB2 hb2
            go_wp2_with fail
            go_roundg (gk - 1)
            case measure=>omega
            case rel=>exact ⟨k+1,done++[s[k]],by omega,by omega,by go_num,by simp;omega,HB.out.trans HBb.out,Aside.intro (.inr (by have:=HB2.out;rwa [show Lib.byteCells done++[Value.int .u8 (s[k].toNat:Int)]=Lib.byteCells (done++[s[k]]) by simp [Lib.byteCells]] at this)),Aside.intro hT.out⟩
          · obtain ⟨e1,e2⟩:=On c92 92 rfl
            have hE:=Zqv (s.extract k s.size) wr (by rw [Us];omega) H3r.out
            rw [Xl] at hE
            unfold Zym at hE
            cases he:Ot (s.data.toList.drop k) with
            | none =>
              rw [he] at hE
              have HE:=Hd hE
              have hr:Hid (Wt (J5 (s.data.toList.drop 1)) 1=.tuple #[.string ⟨#[]⟩,.int .i64 0]):=Hd (by rw [HT.out.bad hlt c92 he];rfl)
              clear HT HBU c34 c10 c13 c92 hE he
              go_wp2_with fail
              refine HE.out.mono ?_
              rintro e w2 ⟨rfl,hb2⟩
              have HBb:=Hd hb2
              clear hb2
              go_wp2_with fail
              go_ret2
              exact ⟨by rw [hr.out];rfl,HB.out.trans (HBb.out.mono hbs)⟩
            | some p =>
              obtain ⟨x,n⟩:=p
              have hT:=Hd (HT.out.esc hk1 hlt c92 he)
              have hpl:=Tk he
              have hp2:=Rg he
              rw [List.length_drop,Z6] at hp2
              simp only at hpl hp2
              rw [he] at hE
              have HE:=Hd hE
              have n0:((n:Int) == 0)=false:=by simp;omega
              clear HT c34 c10 c13 c92 hE he
              go_wp2_with fail
              refine HE.out.mono ?_
              rintro e w2 ⟨rfl,hb2⟩
              have HW:=Hd (Bu w.heap.size w.heap.size (Lib.byteCells done) ⟨x.toArray⟩ w2 (Q4 HBU.out hb2) (by rw [Lib.byteCells_length,Qf];omega) (by have:=hb2.size;omega))
              have HBb:=Hd hb2
              have hb2s:=hb2.size
              clear hb2 HBU
              go_wp2_with fail
              refine HW.out.mono ?_
              rintro e w3 ⟨rfl,hB3,hb3,_⟩
              have HB3:=Hd hB3
              have HBc:=Hd hb3
              clear hB3 hb3
              go_wp2_with fail
              go_roundg (gk - n)
              case measure=>omega
              case rel=>exact ⟨k+n,done++x,by omega,by omega,by go_num,by simp;omega,HB.out.trans ((HBb.out.mono hbs).trans HBc.out),Aside.intro (.inr (by have:=HB3.out;rwa [show Lib.byteCells done++Lib.strCells ⟨x.toArray⟩=Lib.byteCells (done++x) by rw [Lib.strCells_eq];simp [Lib.byteCells]] at this)),Aside.intro hT.out⟩
        · obtain ⟨d1,d2⟩:=On c13 13 rfl
          have hr:Hid (Wt (J5 (s.data.toList.drop 1)) 1=.tuple #[.string ⟨#[]⟩,.int .i64 0]):=Hd (by rw [HT.out.eol hlt c34 (by rw [c13,Bool.or_true])];rfl)
          clear HT HBU c34 c10 c13
          go_wp2_with fail
          go_ret2
          exact ⟨by rw [hr.out];rfl,HB.out⟩
      · obtain ⟨b1,b2⟩:=On c10 10 rfl
        have hr:Hid (Wt (J5 (s.data.toList.drop 1)) 1=.tuple #[.string ⟨#[]⟩,.int .i64 0]):=Hd (by rw [HT.out.eol hlt c34 (by rw [c10,Bool.true_or])];rfl)
        clear HT HBU c34 c10
        go_wp2_with fail
        go_ret2
        exact ⟨by rw [hr.out];rfl,HB.out⟩
    · obtain ⟨a1,a2⟩:=On c34 34 rfl
      have hr:Hid (Wt (J5 (s.data.toList.drop 1)) 1=.tuple #[.string ⟨done.toArray⟩,.int .i64 (1+k:Nat)]):=Hd (by rw [HT.out.fin hk1 hlt c34];rfl)
      have HC:=Hd (Gy w.heap.size w.heap.size done wr HBU.out hbs)
      clear HT HBU c34
      go_wp2_with fail
      refine HC.out.mono ?_
      rintro e w2 ⟨rfl,_,hb2,_⟩
      have HBb:=Hd hb2
      clear hb2
      go_wp2_with fail
      go_ret2
      exact ⟨by rw [hr.out];exact Rl rfl (by omega),HB.out.trans HBb.out⟩
  · obtain rfl:k=s.size:=by omega
    have hr:Hid (Wt (J5 (s.data.toList.drop 1)) 1=.tuple #[.string ⟨#[]⟩,.int .i64 0]):=Hd (by rw [HT.out.stop (Nat.le_refl _)];rfl)
    clear HT HBU
    go_wp2_with fail
    go_ret2
    exact ⟨by rw [hr.out];rfl,HB.out⟩
def C3 (l:List UInt8) (k:Nat) (done:List UInt8):Prop:=P8 (l.drop 3)=(P8 (l.drop k)).map fun q=>(done++q.1,(k - 3)+q.2)
theorem C3.stop {s:ByteArray} {k:Nat} {done:List UInt8} (h:C3 s.data.toList k done) (hk:s.size≤k):P8 (s.data.toList.drop 3)=none:=by
 rw [h,Yp s k hk];rfl
theorem C3.step {s:ByteArray} {k:Nat} {done:List UInt8} (h:C3 s.data.toList k done) (h3:3≤k) (hk:k < s.size) (a:pre [34,34,34] (s.data.toList.drop k)=false) (b:pre [92,34,34,34] (s.data.toList.drop k)=false):C3 s.data.toList (k+1) (done++[s[k]]):=by
 unfold C3 at *
 rw [Z9 s k hk] at a b
 rw [h,Z9 s k hk,Cp,a,b]
 simp only [Bool.false_eq_true,if_false,Option.map_map]
 congr 1
 funext q
 simp only [Function.comp,Prod.mk.injEq,List.append_assoc,List.singleton_append,true_and]
 omega
theorem C3.four {s:ByteArray} {k:Nat} {done:List UInt8} (h:C3 s.data.toList k done) (h3:3≤k) (hk:k < s.size) (a:pre [34,34,34] (s.data.toList.drop k)=false) (b:pre [92,34,34,34] (s.data.toList.drop k)=true):C3 s.data.toList (k+4) (done++[34,34,34]):=by
 unfold C3 at *
 have hd:s.data.toList.drop (k+4)=(s[k] :: s.data.toList.drop (k+1)).drop 4:=by rw [← Z9 s k hk,List.drop_drop]
 rw [Z9 s k hk] at a b
 rw [hd,h,Z9 s k hk,Cp,a,b]
 simp only [Bool.false_eq_true,if_false,if_true,Option.map_map]
 congr 1
 funext q
 simp only [Function.comp,Prod.mk.injEq,List.append_assoc,true_and]
 omega
theorem C3.fin {s:ByteArray} {k:Nat} {done:List UInt8} (h:C3 s.data.toList k done) (hk:k < s.size) (a:pre [34,34,34] (s.data.toList.drop k)=true):P8 (s.data.toList.drop 3)=some (done,k - 3+3):=by
 unfold C3 at *
 rw [Z9 s k hk] at a
 rw [h,Z9 s k hk,Cp,a]
 simp
theorem Ps (s q:ByteArray) (k:Nat) (w:World) (b:Bool) (h:pre q.data.toList (s.data.toList.drop k)=b):Calls Tryz.prog 199 #[.string (s.extract k s.size),.string q] w fun e w'=>e=.returned (.bool b)∧w=w':=
 Zyk (s.extract k s.size) q w b (by rw [Xl];exact h)
def Oq (l:List UInt8):Option (List UInt8 × Nat):=(P8 (l.drop 3)).map fun q=>(Blk.valueL q.1,q.2)
theorem Zxv (s:ByteArray) (w:World) (hs:s.size≤9000) (hs3:3≤s.size):Calls Tryz.prog 229 #[.string s] w fun e w'=>e=.returned (Wt (Oq s.data.toList) 3)∧Below w.heap.size w w':=by
 go_enter Tryz.func229,Tryz.ntmps229
 go_wp2
 go_loopg [5] (s.size - 3) (fun g i wx=>∃ (k:Nat) (done:List UInt8),k+g=s.size∧3≤k∧i=.int .i64 k∧done.length≤k∧Below w.heap.size w wx∧Aside (Lib.IsBuilderF 102 5 w.heap.size w.heap.size (Lib.byteCells done) wx)∧Aside (C3 s.data.toList k done))
 case atStart=>exact ⟨3,[],by omega,by omega,rfl,by simp,(Below.refl _ _).alloc (Nat.le_refl _) _,Aside.intro (Lib.IsBuilderF.of (Lib.fresh_isBuilder _ _ _)),Aside.intro (by unfold C3;cases P8 (s.data.toList.drop 3)<;>simp)⟩
 case round =>
  obtain ⟨k,done,hk,hk3,rfl,hdl,hb,HBU,HT⟩:=hrel
  have hbs:=hb.size
  have HB:=Hd hb
  clear hb
  by_cases hlt:k < s.size
  · have hlt':(k:Int) < (s.size:Int):=by omega
    have hk0:(0:Int)≤(k:Int):=by omega
    have hks:(k:Int)≤(s.size:Int):=by omega
    cases a:pre [34,34,34] (s.data.toList.drop k)
    · have HA:=Hd (Ps s ⟨#[34,34,34]⟩ k wr false a)
      cases b:pre [92,34,34,34] (s.data.toList.drop k)
      · have HQ:=Hd (Ps s ⟨#[92,34,34,34]⟩ k wr false b)
        have hT:=Hd (HT.out.step hk3 hlt a b)
        have HW:=Hd (Sa w.heap.size w.heap.size (Lib.byteCells done) (s[k].toNat:Int) wr HBU.out (by rw [Lib.byteCells_length];omega) hbs)
        clear HT HBU a b
        go_wp2_with fail
        refine HA.out.mono ?_
        rintro e w2 ⟨rfl,rfl⟩
        go_wp2_with fail
        refine HQ.out.mono ?_
        rintro e w2 ⟨rfl,rfl⟩
        go_wp2_with fail
        refine HW.out.mono ?_
        rintro e w2 ⟨rfl,hB2,hb2,_⟩
        have HB2:=Hd hB2
        have HBb:=Hd hb2
        clear hB2 hb2
        go_wp2_with fail
        go_roundg (gk - 1)
        case measure=>omega
        case rel=>exact ⟨k+1,done++[s[k]],by omega,by omega,by go_num,by simp;omega,HB.out.trans HBb.out,Aside.intro (.inr (by have:=HB2.out;rwa [show Lib.byteCells done++[Value.int .u8 (s[k].toNat:Int)]=Lib.byteCells (done++[s[k]]) by simp [Lib.byteCells]] at this)),Aside.intro hT.out⟩
      · have HQ:=Hd (Ps s ⟨#[92,34,34,34]⟩ k wr true b)
        have hT:=Hd (HT.out.four hk3 hlt a b)
        have hk4:k+4≤s.size:=by have:=Vk b;rw [List.length_drop,Z6] at this;simp at this;omega
        have HW:=Hd (Bu w.heap.size w.heap.size (Lib.byteCells done) ⟨#[34,34,34]⟩ wr HBU.out (by rw [Lib.byteCells_length];show done.length+3≤_;omega) hbs)
        clear HT HBU a b
        go_wp2_with fail
        refine HA.out.mono ?_
        rintro e w2 ⟨rfl,rfl⟩
        go_wp2_with fail
        refine HQ.out.mono ?_
        rintro e w2 ⟨rfl,rfl⟩
        go_wp2_with fail
        refine HW.out.mono ?_
        rintro e w2 ⟨rfl,hB2,hb2,_⟩
        have HB2:=Hd hB2
        have HBb:=Hd hb2
        clear hB2 hb2
        go_wp2_with fail
        go_roundg (gk - 4)
        case measure=>omega
        case rel=>exact ⟨k+4,done++[34,34,34],by omega,by omega,by go_num,by simp;omega,HB.out.trans HBb.out,Aside.intro (.inr (by have:=HB2.out;rwa [show Lib.byteCells done++Lib.strCells ⟨#[34,34,34]⟩=Lib.byteCells (done++[34,34,34]) by rw [Lib.strCells_eq];simp [Lib.byteCells]] at this)),Aside.intro hT.out⟩
    · have HA:=Hd (Ps s ⟨#[34,34,34]⟩ k wr true a)
      have hr:Hid (Wt (Oq s.data.toList) 3=.tuple #[.string ⟨(Blk.valueL done).toArray⟩,.int .i64 (3+(k - 3+3):Nat)]):=Hd (by rw [Oq,HT.out.fin hlt a];rfl)
      have HC:=Hd (Gy w.heap.size w.heap.size done wr HBU.out hbs)
      clear HT HBU a
      go_wp2_with fail
      refine HA.out.mono ?_
      rintro e w2 ⟨rfl,rfl⟩
      go_wp2_with fail
      refine HC.out.mono ?_
      rintro e w2 ⟨rfl,_,hb2,_⟩
      have HV:=Hd (Blk.pvalue ⟨done.toArray⟩ w2 (by rw [Qf];omega))
      have HBb:=Hd hb2
      have hb2s:=hb2.size
      clear hb2
      go_wp2_with fail
      refine HV.out.mono ?_
      rintro e w3 ⟨rfl,hb3⟩
      have HBc:=Hd hb3
      clear hb3
      go_wp2_with fail
      go_ret2
      exact ⟨by rw [hr.out];exact Rl rfl (by omega),HB.out.trans (HBb.out.trans (HBc.out.mono (by omega)))⟩
  · obtain rfl:k=s.size:=by omega
    have hr:Hid (Wt (Oq s.data.toList) 3=.tuple #[.string ⟨#[]⟩,.int .i64 0]):=Hd (by rw [Oq,HT.out.stop (Nat.le_refl _)];rfl)
    clear HT HBU
    go_wp2_with fail
    go_ret2
    exact ⟨by rw [hr.out];rfl,HB.out⟩
def Ld (l:List UInt8):Value:=match Xq l with|some q=>Zzo 5 q.1 q.2|none=>Zzo 5 [] 0
theorem Ybe (l:List UInt8):Xq l=if pre [34,34,34] l then (Oq l).map fun q=>(q.1,3+q.2) else if Jg (fun b=>b == 34) l then (J5 (l.drop 1)).map fun q=>(q.1,1+q.2) else none:=by
 cases l with
 | nil=>rfl
 | cons b t =>
   simp only [Xq,Oq,Option.map_map]
   rfl
abbrev Ybx (k:Int) (x:ByteArray):Obj:=.cells #[.int .i64 k,.string x] 70
theorem Jv {w:World} {b:Nat} {k x:Value} (h:w.heap[b]? = some (.cells #[k,x] 70 (0,0))):w.cell? ⟨b,0,none⟩=some k∧w.cell? ⟨b,1,none⟩=some x∧w.frozen? ⟨b,0,none⟩=false∧w.frozen? ⟨b,1,none⟩=false:=by
 simp [World.cell?,World.frozen?,h]
theorem Ej {w:World} {b:Nat} {k x k' x':Value} (h:w.heap[b]? = some (.cells #[k,x] 70 (0,0))):((w.setCell ⟨b,0,none⟩ k').setCell ⟨b,1,none⟩ x').heap[b]? = some (.cells #[k',x'] 70 (0,0)):=by
 simp [World.setCell,Array.getElem?_modify,h]
theorem Ycm (s:ByteArray) (w:World) (hs:s.size≤9000) (h3:Jw w):Calls Tryz.prog 168 #[.string s] w fun e w'=>e=.returned (Ld s.data.toList)∧Below w.heap.size w w':=by
 have H3:=Hd (h3.alloc (Ybx 0 ⟨#[]⟩))
 have HE:=Hd (Ybe s.data.toList)
 cases a:pre [34,34,34] s.data.toList
 · have HA:=Hd (Zyk s ⟨#[34,34,34]⟩ (w.alloc (Ybx 0 ⟨#[]⟩)) false a)
   cases b:Jg (fun b=>b == 34) s.data.toList
   · have HQ:=Hd (Zyk s ⟨#[34]⟩ (w.alloc (Ybx 0 ⟨#[]⟩)) false ((Bb 34 _).trans b))
     have hr:Hid (Ld s.data.toList=Zzo 5 [] 0):=Hd (by rw [Ld,HE.out,a,b];rfl)
     clear a b h3
     go_enter Tryz.func168,Tryz.ntmps168
     go_wp2_with fail
     refine HA.out.mono ?_
     rintro e w2 ⟨rfl,rfl⟩
     go_wp2_with fail
     refine HQ.out.mono ?_
     rintro e w2 ⟨rfl,rfl⟩
     go_wp2_with fail
     refine Jr rfl rfl rfl (heap_alloc_last _ _) ⟨?_,Zz⟩
     rw [hr.out]
     rfl
   · have HQ:=Hd (Zyk s ⟨#[34]⟩ (w.alloc (Ybx 0 ⟨#[]⟩)) true ((Bb 34 _).trans b))
     have h1:1≤s.size:=by
       rcases Nat.eq_zero_or_pos s.size with h|h
       · rw [J9 h] at b;cases b
       · exact h
     have hL:=Ydt s (w.alloc (Ybx 0 ⟨#[]⟩)) hs h1 H3.out
     cases hl:J5 (s.data.toList.drop 1) with
     | none =>
       have hr:Hid (Ld s.data.toList=Zzo 5 [] 0):=Hd (by rw [Ld,HE.out,a,b,hl];rfl)
       simp only [hl,Wt] at hL
       have HL:=Hd hL
       clear a b h3 hL hl
       go_enter Tryz.func168,Tryz.ntmps168
       go_wp2_with fail
       refine HA.out.mono ?_
       rintro e w2 ⟨rfl,rfl⟩
       go_wp2_with fail
       refine HQ.out.mono ?_
       rintro e w2 ⟨rfl,rfl⟩
       go_wp2_with fail
       refine HL.out.mono ?_
       rintro e w2 ⟨rfl,hb2⟩
       have hc0:w2.heap[w.heap.size]? = some (Ybx 0 ⟨#[]⟩):=(hb2.block w.heap.size (by simp)).trans (heap_alloc_last _ _)
       obtain ⟨c0,c1,f0,f1⟩:=Jv hc0
       have HC0:=Hd hc0
       have HBb:=Hd hb2
       clear hc0 hb2
       go_wp2_with fail
       refine Jr rfl rfl rfl (Ej HC0.out) ⟨?_,((Zz.trans (HBb.out.mono (by simp))).setCell (Nat.le_refl _) _).setCell (Nat.le_refl _) _⟩
       rw [hr.out]
       rfl
     | some q =>
       obtain ⟨x,n⟩:=q
       obtain ⟨n1,hn1⟩:∃ n1,1+n=n1:=⟨_,rfl⟩
       have hr:Hid (Ld s.data.toList=Zzo 5 x n1):=Hd (by rw [Ld,HE.out,a,b,hl,← hn1];rfl)
       simp only [hl,Wt] at hL
       rw [hn1] at hL
       have HL:=Hd hL
       have n0:((n1:Int) == 0)=false:=by simp;omega
       clear a b h3 hL hl
       go_enter Tryz.func168,Tryz.ntmps168
       go_wp2_with fail
       refine HA.out.mono ?_
       rintro e w2 ⟨rfl,rfl⟩
       go_wp2_with fail
       refine HQ.out.mono ?_
       rintro e w2 ⟨rfl,rfl⟩
       go_wp2_with fail
       refine HL.out.mono ?_
       rintro e w2 ⟨rfl,hb2⟩
       have hc0:w2.heap[w.heap.size]? = some (Ybx 0 ⟨#[]⟩):=(hb2.block w.heap.size (by simp)).trans (heap_alloc_last _ _)
       obtain ⟨c0,c1,f0,f1⟩:=Jv hc0
       have HC0:=Hd hc0
       have HBb:=Hd hb2
       clear hc0 hb2
       go_wp2_with fail
       refine Jr rfl rfl rfl (Ej HC0.out) ⟨?_,((Zz.trans (HBb.out.mono (by simp))).setCell (Nat.le_refl _) _).setCell (Nat.le_refl _) _⟩
       rw [hr.out,Fy (by omega)]
       rfl
 · have HA:=Hd (Zyk s ⟨#[34,34,34]⟩ (w.alloc (Ybx 0 ⟨#[]⟩)) true a)
   have h3s:3≤s.size:=by have:=Vk a;rw [Z6] at this;exact this
   have hL:=Zxv s (w.alloc (Ybx 0 ⟨#[]⟩)) hs h3s
   cases hl:Oq s.data.toList with
   | none =>
       have hr:Hid (Ld s.data.toList=Zzo 5 [] 0):=Hd (by rw [Ld,HE.out,a,hl];rfl)
       simp only [hl,Wt] at hL
       have HL:=Hd hL
       clear a h3 hL hl
       go_enter Tryz.func168,Tryz.ntmps168
       go_wp2_with fail
       refine HA.out.mono ?_
       rintro e w2 ⟨rfl,rfl⟩
       go_wp2_with fail
       refine HL.out.mono ?_
       rintro e w2 ⟨rfl,hb2⟩
       have hc0:w2.heap[w.heap.size]? = some (Ybx 0 ⟨#[]⟩):=(hb2.block w.heap.size (by simp)).trans (heap_alloc_last _ _)
       obtain ⟨c0,c1,f0,f1⟩:=Jv hc0
       have HC0:=Hd hc0
       have HBb:=Hd hb2
       clear hc0 hb2
       go_wp2_with fail
       refine Jr rfl rfl rfl (Ej HC0.out) ⟨?_,((Zz.trans (HBb.out.mono (by simp))).setCell (Nat.le_refl _) _).setCell (Nat.le_refl _) _⟩
       rw [hr.out]
       rfl
   | some q =>
       obtain ⟨x,n⟩:=q
       obtain ⟨n1,hn1⟩:∃ n1,3+n=n1:=⟨_,rfl⟩
       have hr:Hid (Ld s.data.toList=Zzo 5 x n1):=Hd (by rw [Ld,HE.out,a,hl,← hn1];rfl)
       simp only [hl,Wt] at hL
       rw [hn1] at hL
       have HL:=Hd hL
       have n0:((n1:Int) == 0)=false:=by simp;omega
       clear a h3 hL hl
       go_enter Tryz.func168,Tryz.ntmps168
       go_wp2_with fail
       refine HA.out.mono ?_
       rintro e w2 ⟨rfl,rfl⟩
       go_wp2_with fail
       refine HL.out.mono ?_
       rintro e w2 ⟨rfl,hb2⟩
       have hc0:w2.heap[w.heap.size]? = some (Ybx 0 ⟨#[]⟩):=(hb2.block w.heap.size (by simp)).trans (heap_alloc_last _ _)
       obtain ⟨c0,c1,f0,f1⟩:=Jv hc0
       have HC0:=Hd hc0
       have HBb:=Hd hb2
       clear hc0 hb2
       go_wp2_with fail
       refine Jr rfl rfl rfl (Ej HC0.out) ⟨?_,((Zz.trans (HBb.out.mono (by simp))).setCell (Nat.le_refl _) _).setCell (Nat.le_refl _) _⟩
       rw [hr.out,Fy (by omega)]
       rfl
def X7 (ts:List (Int × List UInt8)):List Value:=ts.flatMap fun t=>[.int .i64 t.1,.string ⟨t.2.toArray⟩]
theorem Zzf:∀ ts,(X7 ts).length=ts.length*2:=by
 intro ts
 induction ts with
 | nil=>rfl
 | cons t ts ih=>show ([_,_]++X7 ts).length=_;rw [List.length_append,ih];simp;omega
theorem Uz (ts:List (Int × List UInt8)) (k:Int) (x:List UInt8):X7 (ts++[(k,x)])=X7 ts++[.int .i64 k,.string ⟨x.toArray⟩]:=by simp [X7]
def Zq (l:List UInt8):List (Int × List UInt8) × Int:=if 8192 < l.length then ([],3) else if Yz l=false then ([],2) else match Uc l with|none=>([],2)|some ts=>(ts,0)
theorem Zjw:(Tryz.prog.info? 70).map (fun i=>(i.zero,i.size,i.bytes))=some (some (.agg #[.int .i64 0,.string ⟨#[]⟩]),2,24):=by kernel_rfl
theorem Vw {w:World} {base:Nat} {e:TypeId} {v:Value} {n:Nat} {xs:List Value} (h:w.ownsRow base e 2 v n xs):∃ A cap,v=.slice A n cap:=by
 rcases h.2 with ⟨hv,hn⟩|⟨g,cap,cur,hv,_⟩
 · exact ⟨none,0,by rw [hv,hn]⟩
 · exact ⟨_,_,hv⟩
theorem Su (w:World) (a b:Value) (t:TypeId):∀ (j:Nat) u,[a,b][j]? = some u→(w.alloc (.cells #[a,b] t)).cell? ((⟨w.heap.size,0,none⟩:Addr).add j)=some u:=by
 intro j u hu
 have hadd:(⟨w.heap.size,0,none⟩:Addr).add j=⟨w.heap.size,j,none⟩:=by unfold Addr.add;split<;>simp_all
 rw [hadd]
 match j,hu with
 | 0,hu=>cases hu;rw [World.cell?_alloc_at _ _ _ _ rfl];rfl
 | 1,hu=>cases hu;rw [World.cell?_alloc_at _ _ _ _ rfl];rfl
 | j+2,hu=>simp at hu
abbrev U4:Array Value:=#[.func (.func 137) #[] #[],.func (.func 166) #[] #[],.func (.func 167) #[] #[],.func (.func 168) #[] #[]]
theorem Yfk {w:World} {B B':Nat} {e:TypeId} {k:Nat} {v:Value} {n:Nat} {xs:List Value} (h:w.ownsRow B e k v n xs) (hB:B'≤B):w.ownsRow B' e k v n xs:=by
 refine ⟨h.1,h.2.imp id ?_⟩
 rintro ⟨g,cap,cur,hv,hb,r⟩
 exact ⟨g,cap,cur,hv,by omega,r⟩
theorem Uy (w:World) (a b:Value) (t:TypeId) {n:Nat} (hn:n=w.heap.size):∀ (j:Nat) u,[a,b][j]? = some u→(w.alloc (.cells #[a,b] t)).cell? ((⟨n,0,none⟩:Addr).add j)=some u:=by
 subst hn
 exact Su w a b t
theorem Ymj (w:World):(Instr.index 196 (.agg U4) (.int .i64 0)).run Tryz.prog w=.ok (.func (.func 137) #[] #[]) w:=by kernel_rfl
theorem Yn5 (w:World):(Instr.index 196 (.agg U4) (.int .i64 1)).run Tryz.prog w=.ok (.func (.func 166) #[] #[]) w:=by kernel_rfl
theorem Ymk (w:World):(Instr.index 196 (.agg U4) (.int .i64 2)).run Tryz.prog w=.ok (.func (.func 167) #[] #[]) w:=by kernel_rfl
theorem Ymx (w:World):(Instr.index 196 (.agg U4) (.int .i64 3)).run Tryz.prog w=.ok (.func (.func 168) #[] #[]) w:=by kernel_rfl
def Of (l:List UInt8):Nat→Nat|0=>J4 l|1=>Ji l|2=>(nbL l).1|_=>match Xq l with|some q=>q.2|none=>0
def Yc3 (l:List UInt8):Nat→Int|0=>1|1=>2|2=>(nbL l).2|_=>5
def Yaf (l:List UInt8):Nat→List UInt8|0=>l.take (J4 l)|1=>l.take (Ji l)|2=>l.take (nbL l).1|_=>match Xq l with|some q=>q.1|none=>[]
def Yma:Nat→Nat|0=>137|1=>166|2=>167|_=>168
theorem Yfv (s:ByteArray) (w:World) (hs:s.size≤9000) (h3:Jw w) (j:Nat):Calls Tryz.prog (Yma j) #[.string s] w fun e w'=>e=.returned (Zzo (Yc3 s.data.toList j) (Yaf s.data.toList j) (Of s.data.toList j))∧Below w.heap.size w w':=by
 match j with
 | 0=>exact Yeq s w
 | 1=>exact Yen s w (by omega)
 | 2=>exact Zyc s w (by omega)
 | j+3 =>
   have h:=Ycm s w hs h3
   unfold Ld at h
   show Calls Tryz.prog 168 _ _ fun e w'=>e=.returned (Zzo 5 (match Xq s.data.toList with|some q=>q.1|none=>[]) (match Xq s.data.toList with|some q=>q.2|none=>0))∧_
   cases hq:Xq s.data.toList with
   | none=>rw [hq] at h;exact h
   | some q=>rw [hq] at h;exact h
theorem Ykf (s:ByteArray) (k:Nat) (w:World) (hs:s.size≤9000) (h3:Jw w) (j:Nat):Calls Tryz.prog (Yma j) #[.string (s.extract k s.size)] w fun e w'=>e=.returned (Zzo (Yc3 (s.data.toList.drop k) j) (Yaf (s.data.toList.drop k) j) (Of (s.data.toList.drop k) j))∧Below w.heap.size w w':=by
 have h:=Yfv (s.extract k s.size) w (by rw [Us];omega) h3 j
 rwa [Xl] at h
theorem Zyo {l:List UInt8} {j:Nat} (hj:j < 4) (h0:∀ i,i < j→Of l i=0) (hn:Of l j ≠ 0):Lb l=some ((Yc3 l j,Yaf l j),Of l j):=by
 unfold Lb
 rcases (by omega:j=0∨j=1∨j=2∨j=3) with rfl|rfl|rfl|rfl
 · rw [if_pos (show J4 l ≠ 0 from hn)];rfl
 · have a:=h0 0 (by omega)
   rw [if_neg (by show ¬ J4 l ≠ 0;rw [show J4 l=0 from a];simp),if_pos (show Ji l ≠ 0 from hn)];rfl
 · have a:=h0 0 (by omega)
   have b:=h0 1 (by omega)
   rw [if_neg (by rw [show J4 l=0 from a];simp),if_neg (by rw [show Ji l=0 from b];simp),if_pos (show (nbL l).1 ≠ 0 from hn)];rfl
 · have a:=h0 0 (by omega)
   have b:=h0 1 (by omega)
   have c:=h0 2 (by omega)
   rw [if_neg (by rw [show J4 l=0 from a];simp),if_neg (by rw [show Ji l=0 from b];simp),if_neg (by rw [show (nbL l).1=0 from c];simp)]
   unfold Of at hn
   simp only [Of,Yaf,Yc3]
   cases hq:Xq l with
   | none=>rw [hq] at hn;exact absurd rfl hn
   | some q=>rfl
theorem Zqr {l:List UInt8} (h0:∀ i,i < 4→Of l i=0):Lb l=none:=by
 have a:=h0 0 (by omega)
 have b:=h0 1 (by omega)
 have c:=h0 2 (by omega)
 have d:=h0 3 (by omega)
 unfold Lb
 rw [if_neg (by rw [show J4 l=0 from a];simp),if_neg (by rw [show Ji l=0 from b];simp),if_neg (by rw [show (nbL l).1=0 from c];simp)]
 unfold Of at d
 cases hq:Xq l with
 | none=>rfl
 | some q =>
   rw [hq] at d
   have:=(W6 hq).1
   simp only at d
   omega
theorem Yft (l:List UInt8) (j:Nat):Of l j≤l.length:=by
 match j with
 | 0=>exact Zkm l
 | 1=>exact Zjm l
 | 2=>exact Wx l
 | j+3 =>
   show (match Xq l with|some q=>q.2|none=>0)≤_
   cases hq:Xq l with
   | none=>simp
   | some q=>exact (W6 hq).2
def Iw (l:List UInt8) (k:Nat) (done:List (Int × List UInt8)):Prop:=Uc l=(Uc (l.drop k)).map (done ++ ·)
theorem Iw.gap {l:List UInt8} {k g:Nat} {done:List (Int × List UInt8)} (h:Iw l k done) (hg:V5 (l.drop k)=g) (g0:g ≠ 0):Iw l (k+g) done:=by
 unfold Iw at *
 rw [h,Rz (by rw [hg];exact g0),hg,List.drop_drop]
theorem Iw.tok {l:List UInt8} {k:Nat} {done:List (Int × List UInt8)} {t:Int × List UInt8} {n:Nat} (h:Iw l k done) (hg:V5 (l.drop k)=0) (hk:l.drop k ≠ []) (ht:Lb (l.drop k)=some (t,n)):Iw l (k+n) (done++[t]):=by
 unfold Iw at *
 rw [h,Bh hg hk ht,List.drop_drop,Option.map_map]
 congr 1
 funext q
 simp
theorem Iw.bad {l:List UInt8} {k:Nat} {done:List (Int × List UInt8)} (h:Iw l k done) (hg:V5 (l.drop k)=0) (hk:l.drop k ≠ []) (ht:Lb (l.drop k)=none):Uc l=none:=by
 rw [h,Nv hg hk ht];rfl
theorem Iw.fin {l:List UInt8} {k:Nat} {done:List (Int × List UInt8)} (h:Iw l k done) (hk:l.drop k=[]):Uc l=some done:=by
 rw [h,hk,Dz];simp
theorem Ybp {w:World} {b:Nat} {t:TypeId} {a c d e:Value} (h:w.heap[b]? = some (.cells #[a,c,d,e] t (0,0))):w.cell? ⟨b,0,none⟩=some a∧w.cell? ⟨b,1,none⟩=some c∧w.cell? ⟨b,2,none⟩=some d∧w.cell? ⟨b,3,none⟩=some e:=by
 simp [World.cell?,h]
theorem Io (s : ByteArray) (w:World) (hs:s.size≤9000) (h3:Jw w):Calls Tryz.prog 92 #[.string s] w fun e w'=>∃ A cap,e=.returned (.tuple #[.slice A (Zq s.data.toList).1.length cap,.int .i64 (Zq s.data.toList).2])∧w'.ownsRow w.heap.size 70 2 (.slice A (Zq s.data.toList).1.length cap) (Zq s.data.toList).1.length (X7 (Zq s.data.toList).1)∧Below w.heap.size w w':=by
 obtain ⟨i0,hi,hz0,hz1,hz2⟩:=info_parts Zjw
 have hl:=Z6 s
 by_cases hbig:8192 < s.size
 · have hr:Hid (Zq s.data.toList=([],3)):=Hd (by unfold Zq;rw [if_pos (by omega)])
   have hbig':(8192:Int) < (s.size:Int):=by omega
   clear hl h3
   go_enter Tryz.func92,Tryz.ntmps92
   go_wp2
   go_step3
   go_wp2_with fail
   simp only [Exit.noGoto_ret]
   go_ret2
   rw [hr.out]
   exact ⟨none,0,rfl,World.ownsRow_nil _ _ _ _,Below.refl _ _⟩
 have hbig' : ¬ (8192:Int) < (s.size:Int):=by omega
 have hS:=Zv9 s w (by omega) h3.1
 cases hsrc:Yz s.data.toList
 · have hr:Hid (Zq s.data.toList=([],2)):=Hd (by unfold Zq;rw [if_neg (by omega),if_pos hsrc])
   rw [hsrc] at hS
   have HS:=Hd hS
   clear hl h3 hS hsrc
   go_enter Tryz.func92,Tryz.ntmps92
   go_wp2
   go_step3
   go_wp2_with fail
   refine HS.out.mono ?_
   rintro e w1 ⟨rfl,hb⟩
   have HB:=Hd hb
   clear hb
   go_wp2_with fail
   simp only [Exit.noGoto_ret]
   go_ret2
   rw [hr.out]
   exact ⟨none,0,rfl,World.ownsRow_nil _ _ _ _,HB.out⟩
 have hrs:Hid (Zq s.data.toList=match Uc s.data.toList with|none=>([],2)|some ts=>(ts,0)):=Hd (by unfold Zq;rw [if_neg (by omega),if_neg (by rw [hsrc];simp)])
 rw [hsrc] at hS
 have HS:=Hd hS
 have H3:=Hd h3
 have HL:=Hd hl
 clear hS hsrc h3 hl
 go_enter Tryz.func92,Tryz.ntmps92
 go_wp2
 go_step3
 go_wp2_with fail
 refine HS.out.mono ?_
 rintro e w1 ⟨rfl,hb1⟩
 have HB1:=Hd hb1
 have hb1s:=hb1.size
 clear hb1
 go_wp2_with fail
 go_step3
 go_wp2_with fail
 go_loopg [5,6] s.size (fun g ov av wx=>∃ (k:Nat) (done:List (Int × List UInt8)),k+g=s.size∧av=.int .i64 k∧done.length≤k∧Aside (Iw s.data.toList k done)∧wx.ownsRow (w1.heap.size+1) 70 2 ov done.length (X7 done)∧wx.heap[w1.heap.size]? = some (.cells U4 196 (0,0))∧Below w1.heap.size w1 wx)
 case atStart=>exact ⟨0,[],by omega,rfl,by simp,Aside.intro (by unfold Iw;rw [List.drop_zero];cases Uc s.data.toList<;>simp),World.ownsRow_nil _ _ _ _,heap_alloc_last _ _,Zz⟩
 case round =>
   obtain ⟨k,done,hk,rfl,hdl,HR,hown,harr,hb⟩:=hrel
   obtain ⟨A,cap,rfl⟩:=Vw hown
   have hbs:=hb.size
   have hlt1:w1.heap.size < wr.heap.size:=(Array.getElem?_eq_some_iff.1 harr).1
   have hk0:(0:Int)≤(k:Int):=by omega
   have hks:(k:Int)≤(s.size:Int):=by omega
   have HB:=Hd hb
   have hG:=Ylr s k wr hs
   have hgl:=Ae (s.data.toList.drop k)
   rw [List.length_drop,HL.out] at hgl
   obtain ⟨g,hg⟩:∃ g,V5 (s.data.toList.drop k)=g:=⟨_,rfl⟩
   rw [hg] at hG hgl
   have HG:=Hd hG
   have HGE:=Hd hg
   clear hG hg hb
   rcases Nat.eq_zero_or_pos g with hz|hz
   · subst hz
     by_cases hend:k=s.size
     · have e0:((k:Int) == (s.size:Int))=true:=by simp;omega
       have hr:Hid (Zq s.data.toList=(done,0)):=Hd (by rw [hrs.out,HR.out.fin (Yp s k (by omega))])
       clear hend HR
       go_wp2_with fail
       refine HG.out.mono ?_
       rintro e w2 ⟨rfl,hb2⟩
       have HO:=Hd (Xi hown hb2)
       have HB2:=Hd hb2
       clear hb2 hown
       go_wp2_with fail
       simp only [Exit.noGoto_ret]
       go_ret2
       rw [hr.out]
       exact ⟨A,cap,rfl,Yfk HO.out (by omega),(HB1.out.trans (HB.out.mono hb1s)).trans (HB2.out.mono (by omega))⟩
     · have e0:((k:Int) == (s.size:Int))=false:=by simp;omega
       have hlt:k < s.size:=by omega
       have hne:Hid (s.data.toList.drop k ≠ []):=Hd (by rw [Z9 s k hlt];simp)
       clear hend
       go_wp2_with fail
       refine HG.out.mono ?_
       rintro e w2 ⟨rfl,hb2⟩
       obtain ⟨c0,c1,c2,c3⟩:=Ybp ((hb2.block w1.heap.size hlt1).trans harr)
       have hown2:=Xi hown hb2
       have harr2:=(hb2.block w1.heap.size hlt1).trans harr
       have hb12:=HB.out.trans (hb2.mono hbs)
       clear hb2 hown harr
       go_wp2_with fail
       go_loopg [5,6,35] 4 (fun g2 ov2 av2 jv wx=>∃ j:Nat,j+g2=4∧ov2=.slice A done.length cap∧av2=.int .i64 k∧jv=.int .i64 j∧Aside (∀ i,i < j→Of (s.data.toList.drop k) i=0)∧wx.ownsRow (w1.heap.size+1) 70 2 (.slice A done.length cap) done.length (X7 done)∧wx.heap[w1.heap.size]? = some (.cells U4 196 (0,0))∧Below w1.heap.size w1 wx)
       case atStart=>exact ⟨0,by omega,rfl,rfl,rfl,Aside.intro (fun i h=>by omega),hown2,harr2,hb12⟩
       case round =>
        obtain ⟨j,hj,rfl,rfl,rfl,HK,hown,harr,hb⟩:=hrel
        have hbs2:=hb.size
        have hlt2:w1.heap.size < wr.heap.size:=(Array.getElem?_eq_some_iff.1 harr).1
        have HB:=Hd hb
        have H3r:=Hd (H3.out.below (HB1.out.trans (hb.mono hb1s)))
        clear hb
        by_cases hj4:j=4
        · have hr:Hid (Zq s.data.toList=([],2)):=Hd (by rw [hrs.out,HR.out.bad HGE.out hne.out (Zqr (by rw [hj4] at HK;exact HK.out))])
          subst hj4
          clear HK HR hown
          go_wp2_with fail
          simp only [Exit.noGoto_ret]
          go_ret2
          rw [hr.out]
          exact ⟨none,0,rfl,World.ownsRow_nil _ _ _ _,HB1.out.trans (HB.out.mono hb1s)⟩
        · have hC:=Ykf s k wr hs H3r.out j
          have hnl:=Yft (s.data.toList.drop k) j
          rw [List.length_drop,HL.out] at hnl
          obtain ⟨n,hn⟩:∃ n,Of (s.data.toList.drop k) j=n:=⟨_,rfl⟩
          obtain ⟨K,hKK⟩:∃ K,Yc3 (s.data.toList.drop k) j=K:=⟨_,rfl⟩
          obtain ⟨T,hT⟩:∃ T,Yaf (s.data.toList.drop k) j=T:=⟨_,rfl⟩
          rw [hn,hKK,hT] at hC
          rw [hn] at hnl
          have HN:=Hd hn
          rcases Nat.eq_zero_or_pos n with hnz|hnz
          · have hK2:Hid (∀ i,i < j+1→Of (s.data.toList.drop k) i=0):=Hd (fun i hi=>by
              rcases Nat.lt_or_ge i j with h|h
              · exact HK.out i h
              · obtain rfl:i=j:=by omega
                exact HN.out.trans hnz)
            subst hnz
            rw [Yk4] at hC
            clear HK hn hKK hT
            rcases (by omega:j=0∨j=1∨j=2∨j=3) with rfl|rfl|rfl|rfl
            · have HC:=Hd hC
              have hidx:=Ymj
              clear hC
              go_wp2_with fail
              refine HC.out.mono ?_
              rintro e w3 ⟨rfl,hb3⟩
              have HO:=Hd ((Xi hown hb3).alloc (.cells #[.int .i64 0,.string ⟨#[]⟩] 70))
              have HB3:=Hd hb3
              have hb3s:=hb3.size
              clear hb3 hown hidx
              go_wp2_with fail
              go_roundg 3
              case measure=>omega
              case rel=>exact ⟨1,by omega,rfl,rfl,by go_num,Aside.intro hK2.out,HO.out,(Below.heap_alloc _ _ _ (by omega)).trans ((HB3.out.block w1.heap.size hlt2).trans harr),(HB.out.trans (HB3.out.mono hbs2)).alloc (by omega) _⟩
            · have HC:=Hd hC
              have hidx:=Yn5
              clear hC
              go_wp2_with fail
              refine HC.out.mono ?_
              rintro e w3 ⟨rfl,hb3⟩
              have HO:=Hd ((Xi hown hb3).alloc (.cells #[.int .i64 0,.string ⟨#[]⟩] 70))
              have HB3:=Hd hb3
              have hb3s:=hb3.size
              clear hb3 hown hidx
              go_wp2_with fail
              go_roundg 2
              case measure=>omega
              case rel=>exact ⟨2,by omega,rfl,rfl,by go_num,Aside.intro hK2.out,HO.out,(Below.heap_alloc _ _ _ (by omega)).trans ((HB3.out.block w1.heap.size hlt2).trans harr),(HB.out.trans (HB3.out.mono hbs2)).alloc (by omega) _⟩
            · have HC:=Hd hC
              have hidx:=Ymk
              clear hC
              go_wp2_with fail
              refine HC.out.mono ?_
              rintro e w3 ⟨rfl,hb3⟩
              have HO:=Hd ((Xi hown hb3).alloc (.cells #[.int .i64 0,.string ⟨#[]⟩] 70))
              have HB3:=Hd hb3
              have hb3s:=hb3.size
              clear hb3 hown hidx
              go_wp2_with fail
              go_roundg 1
              case measure=>omega
              case rel=>exact ⟨3,by omega,rfl,rfl,by go_num,Aside.intro hK2.out,HO.out,(Below.heap_alloc _ _ _ (by omega)).trans ((HB3.out.block w1.heap.size hlt2).trans harr),(HB.out.trans (HB3.out.mono hbs2)).alloc (by omega) _⟩
            · have HC:=Hd hC
              have hidx:=Ymx
              clear hC
              go_wp2_with fail
              refine HC.out.mono ?_
              rintro e w3 ⟨rfl,hb3⟩
              have HO:=Hd ((Xi hown hb3).alloc (.cells #[.int .i64 0,.string ⟨#[]⟩] 70))
              have HB3:=Hd hb3
              have hb3s:=hb3.size
              clear hb3 hown hidx
              go_wp2_with fail
              go_roundg 0
              case measure=>omega
              case rel=>exact ⟨4,by omega,rfl,rfl,by go_num,Aside.intro hK2.out,HO.out,(Below.heap_alloc _ _ _ (by omega)).trans ((HB3.out.block w1.heap.size hlt2).trans harr),(HB.out.trans (HB3.out.mono hbs2)).alloc (by omega) _⟩
          · have hn0:(0:Int) < (n:Int):=by omega
            have hT2:=Hd (HR.out.tok HGE.out hne.out (Zyo (by omega) HK.out (by rw [hn];omega)))
            rw [hn,hKK,hT] at hT2
            rw [Fy (by omega)] at hC
            clear HK hn hKK hT HR
            rcases (by omega:j=0∨j=1∨j=2∨j=3) with rfl|rfl|rfl|rfl
            · have HC:=Hd hC
              have hidx:=Ymj
              clear hC
              go_wp2_with fail
              refine HC.out.mono ?_
              rintro e w3 ⟨rfl,hb3⟩
              have hown3:=(Xi hown hb3).alloc (.cells #[.int .i64 K,.string ⟨T.toArray⟩] 70)
              have HB3:=Hd hb3
              have hb3s:=hb3.size
              clear hb3 hown hidx
              go_wp2_with (at_builtin;refine wpList_append_own _ rfl _ _ 45 rfl (w1.heap.size+1) 70 i0 (.agg #[.int .i64 0,.string ⟨#[]⟩]) 2 24 Tryz.underlying45 hi hz0 hz1 hz2 rfl (by decide) _ _ _ rfl (hown3.alloc _) _ 1 1 [.int .i64 K,.string ⟨T.toArray⟩] rfl rfl (Uy _ _ _ _ (by simp)) (by intro x hx;simp at hx;rcases hx with rfl|rfl<;>rfl) (by unfold maxLen;omega) (by omega) (by simp;omega) ?_;intro v' w4 hown' hgrow _;obtain ⟨A',cap',rfl⟩:=Vw hown';have HG4:=Hd hgrow;have HO4:=Hd hown';have HW:=Hd hown3;clear hgrow hown' hown3)
              have hb5:Below w1.heap.size w1 ((w3.alloc (.cells #[.int .i64 K,.string ⟨T.toArray⟩] 70)).alloc (.cells #[.int .i64 K,.string ⟨T.toArray⟩] 70)):=((HB.out.trans (HB3.out.mono hbs2)).alloc (by omega) _).alloc (by simp;omega) _
              have harr4:w4.heap[w1.heap.size]? = some (.cells U4 196 (0,0)):=by
                obtain ⟨_,_,_,_,hbk⟩:=HG4.out
                rw [hbk w1.heap.size (by simp;omega) (fun e=>by have:=(HW.out.lt _ e.symm).1;omega),Below.heap_alloc _ _ _ (by simp;omega),Below.heap_alloc _ _ _ (by omega),HB3.out.block w1.heap.size hlt2]
                exact harr
              go_roundg (s.size - (k+n))
              case measure=>omega
              case rel=>exact ⟨k+n,done++[(K,T)],by omega,by go_num,by simp;omega,Aside.intro hT2.out,by rw [Uz,List.length_append];exact HO4.out,harr4,hb5.grown HG4.out (by have:=hb5.size;omega) (fun q hq=>by have:=(HW.out.lt q hq).1;omega)⟩
            · have HC:=Hd hC
              have hidx:=Yn5
              clear hC
              go_wp2_with fail
              refine HC.out.mono ?_
              rintro e w3 ⟨rfl,hb3⟩
              have hown3:=(Xi hown hb3).alloc (.cells #[.int .i64 K,.string ⟨T.toArray⟩] 70)
              have HB3:=Hd hb3
              have hb3s:=hb3.size
              clear hb3 hown hidx
              go_wp2_with (at_builtin;refine wpList_append_own _ rfl _ _ 45 rfl (w1.heap.size+1) 70 i0 (.agg #[.int .i64 0,.string ⟨#[]⟩]) 2 24 Tryz.underlying45 hi hz0 hz1 hz2 rfl (by decide) _ _ _ rfl (hown3.alloc _) _ 1 1 [.int .i64 K,.string ⟨T.toArray⟩] rfl rfl (Uy _ _ _ _ (by simp)) (by intro x hx;simp at hx;rcases hx with rfl|rfl<;>rfl) (by unfold maxLen;omega) (by omega) (by simp;omega) ?_;intro v' w4 hown' hgrow _;obtain ⟨A',cap',rfl⟩:=Vw hown';have HG4:=Hd hgrow;have HO4:=Hd hown';have HW:=Hd hown3;clear hgrow hown' hown3)
              have hb5:Below w1.heap.size w1 ((w3.alloc (.cells #[.int .i64 K,.string ⟨T.toArray⟩] 70)).alloc (.cells #[.int .i64 K,.string ⟨T.toArray⟩] 70)):=((HB.out.trans (HB3.out.mono hbs2)).alloc (by omega) _).alloc (by simp;omega) _
              have harr4:w4.heap[w1.heap.size]? = some (.cells U4 196 (0,0)):=by
                obtain ⟨_,_,_,_,hbk⟩:=HG4.out
                rw [hbk w1.heap.size (by simp;omega) (fun e=>by have:=(HW.out.lt _ e.symm).1;omega),Below.heap_alloc _ _ _ (by simp;omega),Below.heap_alloc _ _ _ (by omega),HB3.out.block w1.heap.size hlt2]
                exact harr
              go_roundg (s.size - (k+n))
              case measure=>omega
              case rel=>exact ⟨k+n,done++[(K,T)],by omega,by go_num,by simp;omega,Aside.intro hT2.out,by rw [Uz,List.length_append];exact HO4.out,harr4,hb5.grown HG4.out (by have:=hb5.size;omega) (fun q hq=>by have:=(HW.out.lt q hq).1;omega)⟩
            · have HC:=Hd hC
              have hidx:=Ymk
              clear hC
              go_wp2_with fail
              refine HC.out.mono ?_
              rintro e w3 ⟨rfl,hb3⟩
              have hown3:=(Xi hown hb3).alloc (.cells #[.int .i64 K,.string ⟨T.toArray⟩] 70)
              have HB3:=Hd hb3
              have hb3s:=hb3.size
              clear hb3 hown hidx
              go_wp2_with (at_builtin;refine wpList_append_own _ rfl _ _ 45 rfl (w1.heap.size+1) 70 i0 (.agg #[.int .i64 0,.string ⟨#[]⟩]) 2 24 Tryz.underlying45 hi hz0 hz1 hz2 rfl (by decide) _ _ _ rfl (hown3.alloc _) _ 1 1 [.int .i64 K,.string ⟨T.toArray⟩] rfl rfl (Uy _ _ _ _ (by simp)) (by intro x hx;simp at hx;rcases hx with rfl|rfl<;>rfl) (by unfold maxLen;omega) (by omega) (by simp;omega) ?_;intro v' w4 hown' hgrow _;obtain ⟨A',cap',rfl⟩:=Vw hown';have HG4:=Hd hgrow;have HO4:=Hd hown';have HW:=Hd hown3;clear hgrow hown' hown3)
              have hb5:Below w1.heap.size w1 ((w3.alloc (.cells #[.int .i64 K,.string ⟨T.toArray⟩] 70)).alloc (.cells #[.int .i64 K,.string ⟨T.toArray⟩] 70)):=((HB.out.trans (HB3.out.mono hbs2)).alloc (by omega) _).alloc (by simp;omega) _
              have harr4:w4.heap[w1.heap.size]? = some (.cells U4 196 (0,0)):=by
                obtain ⟨_,_,_,_,hbk⟩:=HG4.out
                rw [hbk w1.heap.size (by simp;omega) (fun e=>by have:=(HW.out.lt _ e.symm).1;omega),Below.heap_alloc _ _ _ (by simp;omega),Below.heap_alloc _ _ _ (by omega),HB3.out.block w1.heap.size hlt2]
                exact harr
              go_roundg (s.size - (k+n))
              case measure=>omega
              case rel=>exact ⟨k+n,done++[(K,T)],by omega,by go_num,by simp;omega,Aside.intro hT2.out,by rw [Uz,List.length_append];exact HO4.out,harr4,hb5.grown HG4.out (by have:=hb5.size;omega) (fun q hq=>by have:=(HW.out.lt q hq).1;omega)⟩
            · have HC:=Hd hC
              have hidx:=Ymx
              clear hC
              go_wp2_with fail
              refine HC.out.mono ?_
              rintro e w3 ⟨rfl,hb3⟩
              have hown3:=(Xi hown hb3).alloc (.cells #[.int .i64 K,.string ⟨T.toArray⟩] 70)
              have HB3:=Hd hb3
              have hb3s:=hb3.size
              clear hb3 hown hidx
              go_wp2_with (at_builtin;refine wpList_append_own _ rfl _ _ 45 rfl (w1.heap.size+1) 70 i0 (.agg #[.int .i64 0,.string ⟨#[]⟩]) 2 24 Tryz.underlying45 hi hz0 hz1 hz2 rfl (by decide) _ _ _ rfl (hown3.alloc _) _ 1 1 [.int .i64 K,.string ⟨T.toArray⟩] rfl rfl (Uy _ _ _ _ (by simp)) (by intro x hx;simp at hx;rcases hx with rfl|rfl<;>rfl) (by unfold maxLen;omega) (by omega) (by simp;omega) ?_;intro v' w4 hown' hgrow _;obtain ⟨A',cap',rfl⟩:=Vw hown';have HG4:=Hd hgrow;have HO4:=Hd hown';have HW:=Hd hown3;clear hgrow hown' hown3)
              have hb5:Below w1.heap.size w1 ((w3.alloc (.cells #[.int .i64 K,.string ⟨T.toArray⟩] 70)).alloc (.cells #[.int .i64 K,.string ⟨T.toArray⟩] 70)):=((HB.out.trans (HB3.out.mono hbs2)).alloc (by omega) _).alloc (by simp;omega) _
              have harr4:w4.heap[w1.heap.size]? = some (.cells U4 196 (0,0)):=by
                obtain ⟨_,_,_,_,hbk⟩:=HG4.out
                rw [hbk w1.heap.size (by simp;omega) (fun e=>by have:=(HW.out.lt _ e.symm).1;omega),Below.heap_alloc _ _ _ (by simp;omega),Below.heap_alloc _ _ _ (by omega),HB3.out.block w1.heap.size hlt2]
                exact harr
              go_roundg (s.size - (k+n))
              case measure=>omega
              case rel=>exact ⟨k+n,done++[(K,T)],by omega,by go_num,by simp;omega,Aside.intro hT2.out,by rw [Uz,List.length_append];exact HO4.out,harr4,hb5.grown HG4.out (by have:=hb5.size;omega) (fun q hq=>by have:=(HW.out.lt q hq).1;omega)⟩
   · have g0:(0:Int) < (g:Int):=by omega
     have hR2:=Hd (HR.out.gap HGE.out (by omega))
     clear hz HR
     go_wp2_with fail
     refine HG.out.mono ?_
     rintro e w2 ⟨rfl,hb2⟩
     have HO:=Hd (Xi hown hb2)
     have HB2:=Hd hb2
     clear hb2 hown
     go_wp2_with fail
     go_roundg (gk - g)
     case measure=>omega
     case rel=>exact ⟨k+g,done,by omega,by go_num,by omega,Aside.intro hR2.out,HO.out,(HB2.out.block w1.heap.size hlt1).trans harr,HB.out.trans (HB2.out.mono hbs)⟩
end Go.Proofs.YtpkmbhnikilihaaGreatDoor
