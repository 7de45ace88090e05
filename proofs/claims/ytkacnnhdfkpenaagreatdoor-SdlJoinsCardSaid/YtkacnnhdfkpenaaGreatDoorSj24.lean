/- The walks of token's lineQuote, blockQuote and quote. -/
import Derived.Test.YtkacnnhdfkpenaaGreatDoorSj23
import Derived.Test.YtkacnnhdfkpenaaGreatDoorSj9
set_option maxRecDepth 100000
set_option maxHeartbeats 1000000
namespace Go.Proofs.YtkacnnhdfkpenaaGreatDoor
open Go.RowKit
theorem builder_below {T e:TypeId} {B b:Nat} {bs:List Value} {w w':World} (h:Lib.IsBuilderF T e B b bs w) (hb:Below w.heap.size w w'):Lib.IsBuilderF T e B b bs w':=by
 have one:∀ p,Lib.BuilderAtF T e B b p bs w→Lib.BuilderAtF T e B b p bs w':=fun p hp=>by
  have hlt:=hp.lt
  obtain ⟨hB,v,hc,hown,hne⟩:=hp
  exact ⟨hB,v,(hb.block b hlt).trans hc,hown.kept (row:=none) ⟨hb.os,hb.tape,hb.output,hb.size,fun j hj _=>hb.block j hj⟩ (Classical.em _),hne⟩
 exact h.elim (fun x=>.inl (one _ x)) (fun x=>.inr (one _ x))
theorem unitsOf_ge:∀ cs:List Int,cs.length≤(unitsOf cs).length:=by
 intro cs
 induction cs with
 | nil=>simp
 | cons c cs ih =>
   show _≤(unitOf c++unitsOf cs).length
   rw [List.length_append,List.length_cons]
   have:1≤(unitOf c).length:=by unfold unitOf;split<;>simp
   omega
theorem bytesOf_len:∀ cs:List Int,(bytesOf cs).length≤4*cs.length:=by
 intro cs
 induction cs with
 | nil=>simp [bytesOf]
 | cons c cs ih =>
   show (Lib.encodeRune c++bytesOf cs).length≤_
   have:=encode_len c
   rw [List.length_append,List.length_cons]
   omega
theorem joinL_len {us:List Int} {x:List UInt8} (h:joinL us=some x):x.length≤4*us.length:=by
 obtain ⟨cs,hc,rfl⟩:=Option.map_eq_some_iff.1 h
 have h1:=(units_of_pairUp us.length us cs (Nat.le_refl _) hc).1
 have h2:=unitsOf_ge cs
 have h3:=bytesOf_len cs
 rw [h1] at h2
 omega
theorem escL_size {l:List UInt8} {p:List UInt8 × Nat} (h:escL l=some p):p.1.length≤p.2:=by
 unfold escL at h
 split at h
 · split at h
   · obtain ⟨x,_,rfl⟩:=Option.map_eq_some_iff.1 h
     simp
   · cases h
 · obtain ⟨x,hx,rfl⟩:=Option.map_eq_some_iff.1 h
   have:=joinL_len hx
   simp only
   omega
theorem ret_pairN {x y:ByteArray} {n m:Int} (hx:x=y) (h:n=m):Ending.returned (.tuple #[.string x,.int .i64 n])=.returned (.tuple #[.string y,.int .i64 m]):=by rw [hx,h]
def pairS (o:Option (List UInt8 × Nat)) (m:Nat):Value:=match o with|some q=>.tuple #[.string ⟨q.1.toArray⟩,.int .i64 (m+q.2:Nat)]|none=>.tuple #[.string ⟨#[]⟩,.int .i64 0]
def lineTo (l:List UInt8) (k:Nat) (done:List UInt8):Prop:=lineL (l.drop 1)=(lineL (l.drop k)).map fun q=>(done++q.1,(k - 1)+q.2)
theorem lineTo.stop {s:ByteArray} {k:Nat} {done:List UInt8} (h:lineTo s.data.toList k done) (hk:s.size≤k):lineL (s.data.toList.drop 1)=none:=by
 rw [h,drop_all s k hk];rfl
theorem lineTo.step {s:ByteArray} {k:Nat} {done:List UInt8} (h:lineTo s.data.toList k done) (h1:1≤k) (hk:k < s.size) (a:(s[k] == 34)=false) (b:(s[k] == 10)=false) (c:(s[k] == 13)=false) (d:(s[k] == 92)=false):lineTo s.data.toList (k+1) (done++[s[k]]):=by
 unfold lineTo at *
 rw [h,drop_at s k hk,lineL_cons,a,b,c,d]
 simp only [Bool.or_self,Bool.false_eq_true,if_false,Option.map_map]
 congr 1
 funext q
 simp only [Function.comp,Prod.mk.injEq,List.append_assoc,List.singleton_append,true_and]
 omega
theorem lineTo.esc {s:ByteArray} {k:Nat} {done:List UInt8} {p:List UInt8 × Nat} (h:lineTo s.data.toList k done) (h1:1≤k) (hk:k < s.size) (d:(s[k] == 92)=true) (he:escL (s.data.toList.drop k)=some p):lineTo s.data.toList (k+p.2) (done++p.1):=by
 unfold lineTo at *
 have d':s[k]=92:=by simpa using d
 have hc:s.data.toList.drop k=92 :: s.data.toList.drop (k+1):=by rw [drop_at s k hk,d']
 rw [hc] at he h
 rw [h,lineL_cons,he,← hc]
 simp only [show ((92:UInt8) == 34)=false from rfl,show ((92:UInt8) == 10 || (92:UInt8) == 13)=false from rfl,show ((92:UInt8) == 92)=true from rfl,Bool.false_eq_true,if_false,if_true,Option.map_map,List.drop_drop]
 congr 1
 funext q
 simp only [Function.comp,Prod.mk.injEq,List.append_assoc,true_and]
 omega
theorem lineTo.bad {s:ByteArray} {k:Nat} {done:List UInt8} (h:lineTo s.data.toList k done) (hk:k < s.size) (d:(s[k] == 92)=true) (he:escL (s.data.toList.drop k)=none):lineL (s.data.toList.drop 1)=none:=by
 unfold lineTo at *
 have d':s[k]=92:=by simpa using d
 have hc:s.data.toList.drop k=92 :: s.data.toList.drop (k+1):=by rw [drop_at s k hk,d']
 rw [hc] at he h
 rw [h,lineL_cons,he]
 rfl
theorem lineTo.eol {s:ByteArray} {k:Nat} {done:List UInt8} (h:lineTo s.data.toList k done) (hk:k < s.size) (a:(s[k] == 34)=false) (b:(s[k] == 10 || s[k] == 13)=true):lineL (s.data.toList.drop 1)=none:=by
 unfold lineTo at *
 rw [h,drop_at s k hk,lineL_cons,a,b]
 rfl
theorem lineTo.fin {s:ByteArray} {k:Nat} {done:List UInt8} (h:lineTo s.data.toList k done) (h1:1≤k) (hk:k < s.size) (a:(s[k] == 34)=true):lineL (s.data.toList.drop 1)=some (done,k):=by
 unfold lineTo at *
 rw [h,drop_at s k hk,lineL_cons,a]
 simp
 omega
theorem line_any (s:ByteArray) (w:World) (hs:s.size≤9000) (hs1:1≤s.size) (h3:Laid3 w):Calls Tryz.prog 185 #[.string s] w fun e w'=>e=.returned (pairS (lineL (s.data.toList.drop 1)) 1)∧Below w.heap.size w w':=by
 have H3:=Hd h3
 clear h3
 go_enter Tryz.func185,Tryz.ntmps185
 go_wp2
 go_loopg [5] (s.size - 1) (fun g i wx=>∃ (k:Nat) (done:List UInt8),k+g=s.size∧1≤k∧i=.int .i64 k∧done.length≤k∧Below w.heap.size w wx∧Aside (Lib.IsBuilderF 118 5 w.heap.size w.heap.size (Lib.byteCells done) wx)∧Aside (lineTo s.data.toList k done))
 case atStart=>exact ⟨1,[],by omega,by omega,rfl,by simp,(Below.refl _ _).alloc (Nat.le_refl _) _,Aside.intro (Lib.IsBuilderF.of (Lib.fresh_isBuilder _ _ _)),Aside.intro (by unfold lineTo;cases lineL (s.data.toList.drop 1)<;>simp)⟩
 case round =>
  obtain ⟨k,done,hk,hk1,rfl,hdl,hb,HBU,HT⟩:=hrel
  have hbs:=hb.size
  have H3r:=Hd (H3.out.below hb)
  have HB:=Hd hb
  clear hb
  by_cases hlt:k < s.size
  · have hlt' : (k:Int) < (s.size:Int):=by omega
    cases c34:(s[k] == 34)
    · obtain ⟨a1,a2⟩:=beqF c34 34 rfl
      cases c10:(s[k] == 10)
      · obtain ⟨b1,b2⟩:=beqF c10 10 rfl
        cases c13:(s[k] == 13)
        · obtain ⟨d1,d2⟩:=beqF c13 13 rfl
          cases c92:(s[k] == 92)
          · obtain ⟨e1,e2⟩:=beqF c92 92 rfl
            have hT:=Hd (HT.out.step hk1 hlt c34 c10 c13 c92)
            have HW:=Hd (writeByte w.heap.size w.heap.size (Lib.byteCells done) (s[k].toNat:Int) wr HBU.out (by rw [Lib.byteCells_length];omega) hbs)
            clear HT HBU c34 c10 c13 c92
            go_wp2_with fail
            refine HW.out.mono ?_
            rintro e w2 ⟨rfl,hB2,hb2,_⟩
            have HB2:=Hd hB2
            have HBb:=Hd hb2
            clear hB2 hb2
            go_wp2_with fail
            go_roundg (gk - 1)
            case measure=>omega
            case rel=>exact ⟨k+1,done++[s[k]],by omega,by omega,by go_num,by simp;omega,HB.out.trans HBb.out,Aside.intro (.inr (by have:=HB2.out;rwa [show Lib.byteCells done++[Value.int .u8 (s[k].toNat:Int)]=Lib.byteCells (done++[s[k]]) by simp [Lib.byteCells]] at this)),Aside.intro hT.out⟩
          · obtain ⟨e1,e2⟩:=beqT c92 92 rfl
            have hE:=escaped_any (s.extract k s.size) wr (by rw [ext_size];omega) H3r.out
            rw [ext_data] at hE
            unfold escS at hE
            cases he:escL (s.data.toList.drop k) with
            | none =>
              rw [he] at hE
              have HE:=Hd hE
              have hr:Hid (pairS (lineL (s.data.toList.drop 1)) 1=.tuple #[.string ⟨#[]⟩,.int .i64 0]):=Hd (by rw [HT.out.bad hlt c92 he];rfl)
              clear HT HBU c34 c10 c13 c92 hE he
              go_wp2_with fail
              refine HE.out.mono ?_
              rintro e w2 ⟨rfl,hb2⟩
              have HBb:=Hd hb2
              clear hb2
              go_wp2_with fail
              go_ret2
              exact ⟨by rw [hr.out];rfl,HB.out.trans (HBb.out.mono hbs)⟩
            | some p =>
              obtain ⟨x,n⟩:=p
              have hT:=Hd (HT.out.esc hk1 hlt c92 he)
              have hpl:=escL_size he
              have hp2:=escL_le he
              rw [List.length_drop,len_data] at hp2
              simp only at hpl hp2
              rw [he] at hE
              have HE:=Hd hE
              have n0:((n:Int) == 0)=false:=by simp;omega
              clear HT c34 c10 c13 c92 hE he
              go_wp2_with fail
              refine HE.out.mono ?_
              rintro e w2 ⟨rfl,hb2⟩
              have HW:=Hd (writeString w.heap.size w.heap.size (Lib.byteCells done) ⟨x.toArray⟩ w2 (builder_below HBU.out hb2) (by rw [Lib.byteCells_length,size_mk];omega) (by have:=hb2.size;omega))
              have HBb:=Hd hb2
              have hb2s:=hb2.size
              clear hb2 HBU
              go_wp2_with fail
              refine HW.out.mono ?_
              rintro e w3 ⟨rfl,hB3,hb3,_⟩
              have HB3:=Hd hB3
              have HBc:=Hd hb3
              clear hB3 hb3
              go_wp2_with fail
              go_roundg (gk - n)
              case measure=>omega
              case rel=>exact ⟨k+n,done++x,by omega,by omega,by go_num,by simp;omega,HB.out.trans ((HBb.out.mono hbs).trans HBc.out),Aside.intro (.inr (by have:=HB3.out;rwa [show Lib.byteCells done++Lib.strCells ⟨x.toArray⟩=Lib.byteCells (done++x) by rw [Lib.strCells_eq];simp [Lib.byteCells]] at this)),Aside.intro hT.out⟩
        · obtain ⟨d1,d2⟩:=beqT c13 13 rfl
          have hr:Hid (pairS (lineL (s.data.toList.drop 1)) 1=.tuple #[.string ⟨#[]⟩,.int .i64 0]):=Hd (by rw [HT.out.eol hlt c34 (by rw [c13,Bool.or_true])];rfl)
          clear HT HBU c34 c10 c13
          go_wp2_with fail
          go_ret2
          exact ⟨by rw [hr.out];rfl,HB.out⟩
      · obtain ⟨b1,b2⟩:=beqT c10 10 rfl
        have hr:Hid (pairS (lineL (s.data.toList.drop 1)) 1=.tuple #[.string ⟨#[]⟩,.int .i64 0]):=Hd (by rw [HT.out.eol hlt c34 (by rw [c10,Bool.true_or])];rfl)
        clear HT HBU c34 c10
        go_wp2_with fail
        go_ret2
        exact ⟨by rw [hr.out];rfl,HB.out⟩
    · obtain ⟨a1,a2⟩:=beqT c34 34 rfl
      have hr:Hid (pairS (lineL (s.data.toList.drop 1)) 1=.tuple #[.string ⟨done.toArray⟩,.int .i64 (1+k:Nat)]):=Hd (by rw [HT.out.fin hk1 hlt c34];rfl)
      have HC:=Hd (builderText w.heap.size w.heap.size done wr HBU.out hbs)
      clear HT HBU c34
      go_wp2_with fail
      refine HC.out.mono ?_
      rintro e w2 ⟨rfl,_,hb2,_⟩
      have HBb:=Hd hb2
      clear hb2
      go_wp2_with fail
      go_ret2
      exact ⟨by rw [hr.out];exact ret_pairN rfl (by omega),HB.out.trans HBb.out⟩
  · obtain rfl:k=s.size:=by omega
    have hr:Hid (pairS (lineL (s.data.toList.drop 1)) 1=.tuple #[.string ⟨#[]⟩,.int .i64 0]):=Hd (by rw [HT.out.stop (Nat.le_refl _)];rfl)
    clear HT HBU
    go_wp2_with fail
    go_ret2
    exact ⟨by rw [hr.out];rfl,HB.out⟩
def rawTo (l:List UInt8) (k:Nat) (done:List UInt8):Prop:=rawL (l.drop 3)=(rawL (l.drop k)).map fun q=>(done++q.1,(k - 3)+q.2)
theorem rawTo.stop {s:ByteArray} {k:Nat} {done:List UInt8} (h:rawTo s.data.toList k done) (hk:s.size≤k):rawL (s.data.toList.drop 3)=none:=by
 rw [h,drop_all s k hk];rfl
theorem rawTo.step {s:ByteArray} {k:Nat} {done:List UInt8} (h:rawTo s.data.toList k done) (h3:3≤k) (hk:k < s.size) (a:pre [34,34,34] (s.data.toList.drop k)=false) (b:pre [92,34,34,34] (s.data.toList.drop k)=false):rawTo s.data.toList (k+1) (done++[s[k]]):=by
 unfold rawTo at *
 rw [drop_at s k hk] at a b
 rw [h,drop_at s k hk,rawL_cons,a,b]
 simp only [Bool.false_eq_true,if_false,Option.map_map]
 congr 1
 funext q
 simp only [Function.comp,Prod.mk.injEq,List.append_assoc,List.singleton_append,true_and]
 omega
theorem rawTo.four {s:ByteArray} {k:Nat} {done:List UInt8} (h:rawTo s.data.toList k done) (h3:3≤k) (hk:k < s.size) (a:pre [34,34,34] (s.data.toList.drop k)=false) (b:pre [92,34,34,34] (s.data.toList.drop k)=true):rawTo s.data.toList (k+4) (done++[34,34,34]):=by
 unfold rawTo at *
 have hd:s.data.toList.drop (k+4)=(s[k] :: s.data.toList.drop (k+1)).drop 4:=by rw [← drop_at s k hk,List.drop_drop]
 rw [drop_at s k hk] at a b
 rw [hd,h,drop_at s k hk,rawL_cons,a,b]
 simp only [Bool.false_eq_true,if_false,if_true,Option.map_map]
 congr 1
 funext q
 simp only [Function.comp,Prod.mk.injEq,List.append_assoc,true_and]
 omega
theorem rawTo.fin {s:ByteArray} {k:Nat} {done:List UInt8} (h:rawTo s.data.toList k done) (hk:k < s.size) (a:pre [34,34,34] (s.data.toList.drop k)=true):rawL (s.data.toList.drop 3)=some (done,k - 3+3):=by
 unfold rawTo at *
 rw [drop_at s k hk] at a
 rw [h,drop_at s k hk,rawL_cons,a]
 simp
theorem hasP_at (s q:ByteArray) (k:Nat) (w:World) (b:Bool) (h:pre q.data.toList (s.data.toList.drop k)=b):Calls Tryz.prog 176 #[.string (s.extract k s.size),.string q] w fun e w'=>e=.returned (.bool b)∧w=w':=
 hasP (s.extract k s.size) q w b (by rw [ext_data];exact h)
def blockL (l:List UInt8):Option (List UInt8 × Nat):=(rawL (l.drop 3)).map fun q=>(Blk.valueL q.1,q.2)
theorem blockq_any (s:ByteArray) (w:World) (hs:s.size≤9000) (hs3:3≤s.size):Calls Tryz.prog 184 #[.string s] w fun e w'=>e=.returned (pairS (blockL s.data.toList) 3)∧Below w.heap.size w w':=by
 go_enter Tryz.func184,Tryz.ntmps184
 go_wp2
 go_loopg [5] (s.size - 3) (fun g i wx=>∃ (k:Nat) (done:List UInt8),k+g=s.size∧3≤k∧i=.int .i64 k∧done.length≤k∧Below w.heap.size w wx∧Aside (Lib.IsBuilderF 118 5 w.heap.size w.heap.size (Lib.byteCells done) wx)∧Aside (rawTo s.data.toList k done))
 case atStart=>exact ⟨3,[],by omega,by omega,rfl,by simp,(Below.refl _ _).alloc (Nat.le_refl _) _,Aside.intro (Lib.IsBuilderF.of (Lib.fresh_isBuilder _ _ _)),Aside.intro (by unfold rawTo;cases rawL (s.data.toList.drop 3)<;>simp)⟩
 case round =>
  obtain ⟨k,done,hk,hk3,rfl,hdl,hb,HBU,HT⟩:=hrel
  have hbs:=hb.size
  have HB:=Hd hb
  clear hb
  by_cases hlt:k < s.size
  · have hlt':(k:Int) < (s.size:Int):=by omega
    have hk0:(0:Int)≤(k:Int):=by omega
    have hks:(k:Int)≤(s.size:Int):=by omega
    cases a:pre [34,34,34] (s.data.toList.drop k)
    · have HA:=Hd (hasP_at s ⟨#[34,34,34]⟩ k wr false a)
      cases b:pre [92,34,34,34] (s.data.toList.drop k)
      · have HQ:=Hd (hasP_at s ⟨#[92,34,34,34]⟩ k wr false b)
        have hT:=Hd (HT.out.step hk3 hlt a b)
        have HW:=Hd (writeByte w.heap.size w.heap.size (Lib.byteCells done) (s[k].toNat:Int) wr HBU.out (by rw [Lib.byteCells_length];omega) hbs)
        clear HT HBU a b
        go_wp2_with fail
        refine HA.out.mono ?_
        rintro e w2 ⟨rfl,rfl⟩
        go_wp2_with fail
        refine HQ.out.mono ?_
        rintro e w2 ⟨rfl,rfl⟩
        go_wp2_with fail
        refine HW.out.mono ?_
        rintro e w2 ⟨rfl,hB2,hb2,_⟩
        have HB2:=Hd hB2
        have HBb:=Hd hb2
        clear hB2 hb2
        go_wp2_with fail
        go_roundg (gk - 1)
        case measure=>omega
        case rel=>exact ⟨k+1,done++[s[k]],by omega,by omega,by go_num,by simp;omega,HB.out.trans HBb.out,Aside.intro (.inr (by have:=HB2.out;rwa [show Lib.byteCells done++[Value.int .u8 (s[k].toNat:Int)]=Lib.byteCells (done++[s[k]]) by simp [Lib.byteCells]] at this)),Aside.intro hT.out⟩
      · have HQ:=Hd (hasP_at s ⟨#[92,34,34,34]⟩ k wr true b)
        have hT:=Hd (HT.out.four hk3 hlt a b)
        have hk4:k+4≤s.size:=by have:=pre_len b;rw [List.length_drop,len_data] at this;simp at this;omega
        have HW:=Hd (writeString w.heap.size w.heap.size (Lib.byteCells done) ⟨#[34,34,34]⟩ wr HBU.out (by rw [Lib.byteCells_length];show done.length+3≤_;omega) hbs)
        clear HT HBU a b
        go_wp2_with fail
        refine HA.out.mono ?_
        rintro e w2 ⟨rfl,rfl⟩
        go_wp2_with fail
        refine HQ.out.mono ?_
        rintro e w2 ⟨rfl,rfl⟩
        go_wp2_with fail
        refine HW.out.mono ?_
        rintro e w2 ⟨rfl,hB2,hb2,_⟩
        have HB2:=Hd hB2
        have HBb:=Hd hb2
        clear hB2 hb2
        go_wp2_with fail
        go_roundg (gk - 4)
        case measure=>omega
        case rel=>exact ⟨k+4,done++[34,34,34],by omega,by omega,by go_num,by simp;omega,HB.out.trans HBb.out,Aside.intro (.inr (by have:=HB2.out;rwa [show Lib.byteCells done++Lib.strCells ⟨#[34,34,34]⟩=Lib.byteCells (done++[34,34,34]) by rw [Lib.strCells_eq];simp [Lib.byteCells]] at this)),Aside.intro hT.out⟩
    · have HA:=Hd (hasP_at s ⟨#[34,34,34]⟩ k wr true a)
      have hr:Hid (pairS (blockL s.data.toList) 3=.tuple #[.string ⟨(Blk.valueL done).toArray⟩,.int .i64 (3+(k - 3+3):Nat)]):=Hd (by rw [blockL,HT.out.fin hlt a];rfl)
      have HC:=Hd (builderText w.heap.size w.heap.size done wr HBU.out hbs)
      clear HT HBU a
      go_wp2_with fail
      refine HA.out.mono ?_
      rintro e w2 ⟨rfl,rfl⟩
      go_wp2_with fail
      refine HC.out.mono ?_
      rintro e w2 ⟨rfl,_,hb2,_⟩
      have HV:=Hd (Blk.pvalue ⟨done.toArray⟩ w2 (by rw [size_mk];omega))
      have HBb:=Hd hb2
      have hb2s:=hb2.size
      clear hb2
      go_wp2_with fail
      refine HV.out.mono ?_
      rintro e w3 ⟨rfl,hb3⟩
      have HBc:=Hd hb3
      clear hb3
      go_wp2_with fail
      go_ret2
      exact ⟨by rw [hr.out];exact ret_pairN rfl (by omega),HB.out.trans (HBb.out.trans (HBc.out.mono (by omega)))⟩
  · obtain rfl:k=s.size:=by omega
    have hr:Hid (pairS (blockL s.data.toList) 3=.tuple #[.string ⟨#[]⟩,.int .i64 0]):=Hd (by rw [blockL,HT.out.stop (Nat.le_refl _)];rfl)
    clear HT HBU
    go_wp2_with fail
    go_ret2
    exact ⟨by rw [hr.out];rfl,HB.out⟩
def quoteS (l:List UInt8):Value:=match quoteL l with|some q=>tokS 5 q.1 q.2|none=>tokS 5 [] 0
theorem quoteL_eq (l:List UInt8):quoteL l=if pre [34,34,34] l then (blockL l).map fun q=>(q.1,3+q.2) else if headB (fun b=>b == 34) l then (lineL (l.drop 1)).map fun q=>(q.1,1+q.2) else none:=by
 cases l with
 | nil=>rfl
 | cons b t =>
   simp only [quoteL,blockL,Option.map_map]
   rfl
abbrev tokV (k:Int) (x:ByteArray):Obj:=.cells #[.int .i64 k,.string x] 52
theorem tok_cells {w:World} {b:Nat} {k x:Value} (h:w.heap[b]? = some (.cells #[k,x] 52 (0,0))):w.cell? ⟨b,0,none⟩=some k∧w.cell? ⟨b,1,none⟩=some x∧w.frozen? ⟨b,0,none⟩=false∧w.frozen? ⟨b,1,none⟩=false:=by
 simp [World.cell?,World.frozen?,h]
theorem tok_set {w:World} {b:Nat} {k x k' x':Value} (h:w.heap[b]? = some (.cells #[k,x] 52 (0,0))):((w.setCell ⟨b,0,none⟩ k').setCell ⟨b,1,none⟩ x').heap[b]? = some (.cells #[k',x'] 52 (0,0)):=by
 simp [World.setCell,Array.getElem?_modify,h]
theorem quote_any (s:ByteArray) (w:World) (hs:s.size≤9000) (h3:Laid3 w):Calls Tryz.prog 104 #[.string s] w fun e w'=>e=.returned (quoteS s.data.toList)∧Below w.heap.size w w':=by
 have H3:=Hd (h3.alloc (tokV 0 ⟨#[]⟩))
 have HE:=Hd (quoteL_eq s.data.toList)
 cases a:pre [34,34,34] s.data.toList
 · have HA:=Hd (hasP s ⟨#[34,34,34]⟩ (w.alloc (tokV 0 ⟨#[]⟩)) false a)
   cases b:headB (fun b=>b == 34) s.data.toList
   · have HQ:=Hd (hasP s ⟨#[34]⟩ (w.alloc (tokV 0 ⟨#[]⟩)) false ((pre_one 34 _).trans b))
     have hr:Hid (quoteS s.data.toList=tokS 5 [] 0):=Hd (by rw [quoteS,HE.out,a,b];rfl)
     clear a b h3
     go_enter Tryz.func104,Tryz.ntmps104
     go_wp2_with fail
     refine HA.out.mono ?_
     rintro e w2 ⟨rfl,rfl⟩
     go_wp2_with fail
     refine HQ.out.mono ?_
     rintro e w2 ⟨rfl,rfl⟩
     go_wp2_with fail
     refine ret_tok rfl rfl rfl (heap_alloc_last _ _) ⟨?_,below_new⟩
     rw [hr.out]
     rfl
   · have HQ:=Hd (hasP s ⟨#[34]⟩ (w.alloc (tokV 0 ⟨#[]⟩)) true ((pre_one 34 _).trans b))
     have h1:1≤s.size:=by
       rcases Nat.eq_zero_or_pos s.size with h|h
       · rw [nil_of_size h] at b;cases b
       · exact h
     have hL:=line_any s (w.alloc (tokV 0 ⟨#[]⟩)) hs h1 H3.out
     cases hl:lineL (s.data.toList.drop 1) with
     | none =>
       have hr:Hid (quoteS s.data.toList=tokS 5 [] 0):=Hd (by rw [quoteS,HE.out,a,b,hl];rfl)
       simp only [hl,pairS] at hL
       have HL:=Hd hL
       clear a b h3 hL hl
       go_enter Tryz.func104,Tryz.ntmps104
       go_wp2_with fail
       refine HA.out.mono ?_
       rintro e w2 ⟨rfl,rfl⟩
       go_wp2_with fail
       refine HQ.out.mono ?_
       rintro e w2 ⟨rfl,rfl⟩
       go_wp2_with fail
       refine HL.out.mono ?_
       rintro e w2 ⟨rfl,hb2⟩
       have hc0:w2.heap[w.heap.size]? = some (tokV 0 ⟨#[]⟩):=(hb2.block w.heap.size (by simp)).trans (heap_alloc_last _ _)
       obtain ⟨c0,c1,f0,f1⟩:=tok_cells hc0
       have HC0:=Hd hc0
       have HBb:=Hd hb2
       clear hc0 hb2
       go_wp2_with fail
       refine ret_tok rfl rfl rfl (tok_set HC0.out) ⟨?_,((below_new.trans (HBb.out.mono (by simp))).setCell (Nat.le_refl _) _).setCell (Nat.le_refl _) _⟩
       rw [hr.out]
       rfl
     | some q =>
       obtain ⟨x,n⟩:=q
       obtain ⟨n1,hn1⟩:∃ n1,1+n=n1:=⟨_,rfl⟩
       have hr:Hid (quoteS s.data.toList=tokS 5 x n1):=Hd (by rw [quoteS,HE.out,a,b,hl,← hn1];rfl)
       simp only [hl,pairS] at hL
       rw [hn1] at hL
       have HL:=Hd hL
       have n0:((n1:Int) == 0)=false:=by simp;omega
       clear a b h3 hL hl
       go_enter Tryz.func104,Tryz.ntmps104
       go_wp2_with fail
       refine HA.out.mono ?_
       rintro e w2 ⟨rfl,rfl⟩
       go_wp2_with fail
       refine HQ.out.mono ?_
       rintro e w2 ⟨rfl,rfl⟩
       go_wp2_with fail
       refine HL.out.mono ?_
       rintro e w2 ⟨rfl,hb2⟩
       have hc0:w2.heap[w.heap.size]? = some (tokV 0 ⟨#[]⟩):=(hb2.block w.heap.size (by simp)).trans (heap_alloc_last _ _)
       obtain ⟨c0,c1,f0,f1⟩:=tok_cells hc0
       have HC0:=Hd hc0
       have HBb:=Hd hb2
       clear hc0 hb2
       go_wp2_with fail
       refine ret_tok rfl rfl rfl (tok_set HC0.out) ⟨?_,((below_new.trans (HBb.out.mono (by simp))).setCell (Nat.le_refl _) _).setCell (Nat.le_refl _) _⟩
       rw [hr.out,tokS_yes (by omega)]
       rfl
 · have HA:=Hd (hasP s ⟨#[34,34,34]⟩ (w.alloc (tokV 0 ⟨#[]⟩)) true a)
   have h3s:3≤s.size:=by have:=pre_len a;rw [len_data] at this;exact this
   have hL:=blockq_any s (w.alloc (tokV 0 ⟨#[]⟩)) hs h3s
   cases hl:blockL s.data.toList with
   | none =>
       have hr:Hid (quoteS s.data.toList=tokS 5 [] 0):=Hd (by rw [quoteS,HE.out,a,hl];rfl)
       simp only [hl,pairS] at hL
       have HL:=Hd hL
       clear a h3 hL hl
       go_enter Tryz.func104,Tryz.ntmps104
       go_wp2_with fail
       refine HA.out.mono ?_
       rintro e w2 ⟨rfl,rfl⟩
       go_wp2_with fail
       refine HL.out.mono ?_
       rintro e w2 ⟨rfl,hb2⟩
       have hc0:w2.heap[w.heap.size]? = some (tokV 0 ⟨#[]⟩):=(hb2.block w.heap.size (by simp)).trans (heap_alloc_last _ _)
       obtain ⟨c0,c1,f0,f1⟩:=tok_cells hc0
       have HC0:=Hd hc0
       have HBb:=Hd hb2
       clear hc0 hb2
       go_wp2_with fail
       refine ret_tok rfl rfl rfl (tok_set HC0.out) ⟨?_,((below_new.trans (HBb.out.mono (by simp))).setCell (Nat.le_refl _) _).setCell (Nat.le_refl _) _⟩
       rw [hr.out]
       rfl
   | some q =>
       obtain ⟨x,n⟩:=q
       obtain ⟨n1,hn1⟩:∃ n1,3+n=n1:=⟨_,rfl⟩
       have hr:Hid (quoteS s.data.toList=tokS 5 x n1):=Hd (by rw [quoteS,HE.out,a,hl,← hn1];rfl)
       simp only [hl,pairS] at hL
       rw [hn1] at hL
       have HL:=Hd hL
       have n0:((n1:Int) == 0)=false:=by simp;omega
       clear a h3 hL hl
       go_enter Tryz.func104,Tryz.ntmps104
       go_wp2_with fail
       refine HA.out.mono ?_
       rintro e w2 ⟨rfl,rfl⟩
       go_wp2_with fail
       refine HL.out.mono ?_
       rintro e w2 ⟨rfl,hb2⟩
       have hc0:w2.heap[w.heap.size]? = some (tokV 0 ⟨#[]⟩):=(hb2.block w.heap.size (by simp)).trans (heap_alloc_last _ _)
       obtain ⟨c0,c1,f0,f1⟩:=tok_cells hc0
       have HC0:=Hd hc0
       have HBb:=Hd hb2
       clear hc0 hb2
       go_wp2_with fail
       refine ret_tok rfl rfl rfl (tok_set HC0.out) ⟨?_,((below_new.trans (HBb.out.mono (by simp))).setCell (Nat.le_refl _) _).setCell (Nat.le_refl _) _⟩
       rw [hr.out,tokS_yes (by omega)]
       rfl
end Go.Proofs.YtkacnnhdfkpenaaGreatDoor
