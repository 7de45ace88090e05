/- The landed document: its walk. -/
import Derived.Test.YtkmloefbkgcbkaaGreatDoorSr25
namespace Go.Proofs.YtkmloefbkgcbkaaGreatDoor
open Go.RowKit
theorem Zk4 {s:ByteArray} (hs:s.size≤9000):Vq (C8 (Zz s.data.toList).1):=by
 unfold Zz
 split
 · intro t ht;cases ht
 · split
   · intro t ht;cases ht
   · cases h:Ua s.data.toList with
     | none=>intro t ht;cases ht
     | some ts=>exact Zyx hs h
theorem Bl : ∀ (n:Nat) (l:List UInt8) ts,Iy n l=some ts→ts.length≤n
 | 0,_,_,h=>by cases h
 | n + 1,l,ts,h=>by
   rw [Iy] at h
   split at h
   · exact Nat.le_succ_of_le (Bl n _ ts h)
   · split at h
     · cases h;simp
     · cases hk:Lb l with
       | none=>rw [hk] at h;cases h
       | some p =>
         rw [hk] at h
         cases hr:Iy n (l.drop p.2) with
         | none=>simp only [hr] at h;cases h
         | some us =>
           simp only [hr] at h;have h:=Option.some.inj h;subst h;have:=Bl n _ us hr;simp;omega
theorem Zqi {s:ByteArray} (hs:s.size≤9000):(Zz s.data.toList).1.length≤9001:=by
 have h3:s.data.toList.length=s.size:=Array.length_toList;unfold Zz
 split
 · simp
 · split
   · simp
   · cases h:Ua s.data.toList with
     | none=>simp
     | some ts=>have:=Bl _ _ ts h;show ts.length≤_;omega
def Eb (w:World) (A:Option Addr) (cap:Nat) (ts:List (Int × List UInt8)):Prop:=(∀ (j:Nat) v,(X8 ts)[j]? = some v→∃ g,A=some ⟨g,0,none⟩∧g < w.heap.size∧w.cell? ⟨g,j,none⟩=some v)∧ts.length≤cap
theorem Eb.on {w w':World} {A:Option Addr} {cap:Nat} {ts:List (Int × List UInt8)} (h:Eb w A cap ts) (hb:Below w.heap.size w w'):Eb w' A cap ts:=
 ⟨fun j v hv=>by
  obtain ⟨g,hA,hg,hc⟩:=h.1 j v hv;exact ⟨g,hA,by have:=hb.size;omega,(hb.cell (p:=⟨g,j,none⟩) hg).trans hc⟩,h.2⟩
theorem Yi6 {w:World} {base:Nat} {A:Option Addr} {cap:Nat} {ts:List (Int × List UInt8)} (h:w.ownsRow base 45 2 (.slice A ts.length cap) ts.length (X8 ts)):Eb w A cap ts:=by
 rcases h.2 with ⟨hv,hn⟩|⟨g,c,cur,hv,hbase,hh,hnc,hm,hcs,htk⟩
 · have hus:ts=[]:=List.eq_nil_of_length_eq_zero hn
   subst hus;injection hv with h1 h2 h3
   exact ⟨fun j v hv=>by simp [X8] at hv,by simp⟩
 · have hv':=hv
   injection hv' with h1 h2 h3
   subst h1 h3;refine ⟨fun j v hv=>⟨g,rfl,(h.lt g rfl).2,?_⟩,hnc⟩;have hjl:=(List.getElem?_eq_some_iff.1 hv).1;rw [Zk3] at hjl;rw [World.ownsRow.cellAt h j hjl,hv]
theorem Eb.one {w:World} {A:Option Addr} {cap:Nat} {k:Int} {x:List UInt8} (h:Eb w A cap [(k,x)]):∃ g,A=some ⟨g,0,none⟩∧g < w.heap.size∧w.cell? ⟨g,0,none⟩=some (.int .i64 k)∧w.cell? ⟨g,1,none⟩=some (.string ⟨x.toArray⟩):=by
 obtain ⟨g,hA,hg,h0⟩:=h.1 0 _ rfl;obtain ⟨g',hA',_,h1⟩:=h.1 1 _ rfl;subst hA;injection hA' with e
 injection e with e1
 subst e1;exact ⟨g,rfl,hg,h0,h1⟩
def K3 (w wx:World):Prop:=Ue wx∧Below w.heap.size w wx
theorem K3.next {w wx wy:World} (h:K3 w wx) (hb:Below wx.heap.size wx wy):K3 w wy:=⟨h.1.below hb,h.2.trans (hb.mono h.2.size)⟩
theorem K3.alloc {w wx:World} (h:K3 w wx) (o:Obj):K3 w (wx.alloc o):=h.next ((Below.refl _ _).alloc (Nat.le_refl _) o)
namespace LNumbers
end LNumbers
open Go.RowKit
namespace LUnits
end LUnits
def Oj (t:Int × List UInt8):Bool:=
 if t.1=1 then decide (0 < J6 t.2∧J6 t.2=t.2.length) else if t.1=2 then Jv t.2 else if t.1=3∨t.1=4 then decide (Jf t.2=t.1) else if t.1=5 then Zm t.2 else false
theorem Zyz {z:Int} (h0:0≤z) (h1:z < 256):((z.toNat.toUInt8).toNat:Int)=z:=X2 h0 h1
theorem Dq {c:Int} (h:128≤c):∀ b ∈ Lib.encodeRune c,128≤b.toNat:=by
 intro b hb;unfold Lib.encodeRune at hb;obtain ⟨z,hz,rfl⟩:=List.mem_map.1 hb;have hb:=Lib.encodeRuneZ_byte c z hz
 have hz2:128≤z:=by
  unfold Lib.encodeRuneZ at hz
  split at hz
  · omega
  · split at hz
    · simp at hz;omega
    · split at hz
      · simp at hz;omega
      · split at hz
        · simp at hz;omega
        · simp at hz;omega
 have:=Zyz hb.1 hb.2;omega
theorem Ba {c:Int} (h0:0≤c) (h1:c < 128):Lib.encodeRune c=[c.toNat.toUInt8]:=by
 unfold Lib.encodeRune;rw [Lib.encodeRuneZ_one h0 (by omega)]
 rfl
theorem Yar {n:List UInt8} (hn:Jv n=true):n.all Zj9=true:=by
 have key:∀ b:UInt8,(Qz (b.toNat:Int) || Ro (b.toNat:Int))=true→Zj9 b=true:=Y8 (by decide +kernel)
 cases n with
 | nil=>rfl
 | cons b t =>
   have:(Qz (b.toNat:Int) && Wz t)=true:=hn;rw [Bool.and_eq_true] at this;rw [List.all_cons,Bool.and_eq_true];refine ⟨key b (by rw [this.1];rfl),List.all_eq_true.2 fun x hx=>key x (List.all_eq_true.1 this.2 x hx)⟩
def bz (n:List UInt8):ByteArray:=⟨n.toArray⟩
theorem Du (l:List UInt8) (j:Nat):Xe (l.take j)=min j (Xe l):=by
 unfold Xe
 induction l generalizing j with
 | nil=>simp
 | cons b t ih =>
   cases j with
   | zero=>simp
   | succ j =>
     rw [List.take_succ_cons,List.takeWhile_cons,List.takeWhile_cons]
     split
     · simp only [List.length_cons];rw [ih j];omega
     · simp
theorem Yd4 {l:List UInt8} {j:Nat} (h:Vp l≤j):Vp (l.take j)=Vp l:=by
 cases l with
 | nil=>simp
 | cons b t =>
   cases j with
   | zero => have:Vp (b :: t)=0:=by omega
             rw [this];rfl
   | succ j =>
     rw [List.take_succ_cons];simp only [Vp] at h ⊢;rw [Du]
     split
     · rename_i hb
       rw [if_pos hb] at h
       by_cases h0:Xe t=0
       · rw [h0];simp
       · rw [if_neg h0] at h
         rw [show min j (Xe t)=Xe t by omega]
     · rfl
theorem Zqv {l:List UInt8} {j:Nat} (h:j ≠ 0):Xp (l.take j)=Xp l:=by
 cases l with
 | nil=>simp
 | cons b t =>
   cases j with
   | zero=>exact absurd rfl h
   | succ j=>rw [List.take_succ_cons];rfl
theorem Yay {l:List UInt8} {j:Nat} (h:Jl l≤j):Jl (l.take j)=Jl l:=by
 cases l with
 | nil=>simp
 | cons b t =>
   cases j with
   | zero => have:Jl (b :: t)=0:=by omega
             rw [this];rfl
   | succ j =>
     rw [List.take_succ_cons];simp only [Jl] at h ⊢
     split
     · rename_i hb
       rw [if_pos hb] at h
       by_cases h0:Xe (t.drop (Xp t))=0
       · rw [if_pos h0] at h
         rw [if_pos h0]
         have:Xe ((t.take j).drop (Xp (t.take j)))=0:=by
           by_cases hj:j=0
           · subst hj;simp [Xe]
           · rw [Zqv hj,List.drop_take,Du,h0];simp
         rw [if_pos this]
       · rw [if_neg h0] at h
         have hj:j ≠ 0:=by omega
         rw [Zqv hj,List.drop_take,Du,show min (j - Xp t) (Xe (t.drop (Xp t)))=Xe (t.drop (Xp t)) by omega]
     · rfl
theorem Yab {l:List UInt8} {j:Nat} (h:j ≠ 0):Zu (l.take j)=Zu l:=by
 cases l with
 | nil=>simp
 | cons b t =>
   cases j with
   | zero=>exact absurd rfl h
   | succ j=>rw [List.take_succ_cons];rfl
theorem Zvs {l:List UInt8} {j:Nat} (h:Yc l≤j):Yc (l.take j)=Yc l:=by
 cases l with
 | nil=>simp
 | cons b t =>
   cases j with
   | zero => have:Yc (b :: t)=0:=by omega
             rw [this];rfl
   | succ j =>
     have ht:(b :: t).take (j+1)=b :: t.take j:=List.take_succ_cons;rw [ht];simp only [Yc] at h ⊢
     split
     · rfl
     · rename_i hb
       rw [if_neg hb] at h;rw [← ht,Du];omega
theorem Sl (l:List UInt8):nmL (l.take (nmL l).1)=nmL l:=by
 by_cases h0:Yc (l.drop (Zu l))=0
 · have e:nmL l=(0,0):=by unfold nmL;rw [if_pos h0]
   rw [e];rfl
 · obtain ⟨m,hm⟩:∃ m,Zu l=m:=⟨_,rfl⟩
   obtain ⟨w,hw⟩:∃ w,Yc (l.drop m)=w:=⟨_,rfl⟩;obtain ⟨f,hf⟩:∃ f,Vp (l.drop (m+w))=f:=⟨_,rfl⟩;obtain ⟨x,hx⟩:∃ x,Jl (l.drop (m+w+f))=x:=⟨_,rfl⟩
   have e:nmL l=(m+w+f+x,if f=0∧x=0 then 3 else 4):=by
    unfold nmL;rw [if_neg h0,hm,hw,hf,hx]
   have hw0:w ≠ 0:=by rw [← hw,← hm];exact h0
   rw [e];simp only;have e1:Zu (l.take (m+w+f+x))=m:=by rw [Yab (by omega)];exact hm
   have e2:Yc ((l.take (m+w+f+x)).drop m)=w:=by rw [List.drop_take,Zvs (by rw [hw];omega)];exact hw
   have e3:Vp ((l.take (m+w+f+x)).drop (m+w))=f:=by rw [List.drop_take,Yd4 (by rw [hf];omega)];exact hf
   have e4:Jl ((l.take (m+w+f+x)).drop (m+w+f))=x:=by rw [List.drop_take,Yay (by rw [hx];omega)];exact hx
   unfold nmL;rw [e1,e2,e3,e4,if_neg hw0]
theorem Zjc {l:List UInt8} (h:(nbL l).1 ≠ 0):Jf (l.take (nbL l).1)=(nbL l).2∧((nbL l).2=3∨(nbL l).2=4):=by
 have e:nbL l=nmL l:=by
   unfold nbL at h ⊢
   split at h
   · exact absurd rfl h
   · rename_i h1
     split at h
     · exact absurd rfl h
     · rename_i h2
       rw [if_neg h1,if_neg h2]
 rw [e] at h ⊢;have hle:=Fx l;have ht:=Sl l
 constructor
 · rw [Yie,ht,if_neg (by rw [List.length_take];omega)]
 · unfold nmL at h ⊢
   split at h
   · exact absurd rfl h
   · rename_i h1
     rw [if_neg h1];simp only
     split
     · exact .inl rfl
     · exact .inr rfl
theorem Zya {l:List UInt8} (h:Zm l=true):∃ cs,cs.all okB=true∧Yh cs=l:=by
 rw [J9] at h
 cases hc:Jc l with
 | none=>rw [hc] at h;cases h
 | some cs =>
   obtain ⟨a,b⟩:=Gq _ l cs (Nat.le_refl _) hc;exact ⟨cs,b,a⟩
theorem Wi {cs:List Int} (h:cs.all okB=true):Zm (Yh cs)=true:=by
 rw [J9];have:=Bn cs [] h;rw [List.append_nil,Fe] at this;rw [this];rfl
theorem Ft {a:List UInt8} (ha:Zm a=true) (b:List UInt8):Zm (a++b)=Zm b:=by
 rw [J9] at ha ⊢;rw [J9]
 cases hc:Jc a with
 | none=>rw [hc] at ha;cases ha
 | some cs =>
   rw [Zq7 hc]
   cases Jc b<;>rfl
theorem V3:∀ {a:List UInt8} (b:List UInt8),(∀ x ∈ a,x.toNat < 128)→Zm (a++b)=Zm b
 | [],_,_=>rfl
 | c :: a,b,h=>by rw [List.cons_append,Zi _ (h c (by simp)),V3 b fun x hx=>h x (by simp [hx])]
theorem Yiy {a:List UInt8} (h:∀ x ∈ a,x.toNat < 128):Zm a=true:=by
 have:=V3 [] h;rw [List.append_nil] at this;rw [this];rfl
theorem Se {b:UInt8} {t:List UInt8} (hb:b.toNat < 128):∀ (cs:List Int) (p:List UInt8),cs.all okB=true→Yh cs=p++b :: t→Zm p=true∧Zm t=true
 | [],p,_,h=>by have:=congrArg List.length h;simp [Yh] at this
 | c :: cs,p,hk,h=>by
   simp only [List.all_cons,Bool.and_eq_true] at hk;have hok:0≤c∧c≤1114111∧X6 c=false:=by simpa [okB] using hk.1
   have h':Lib.encodeRune c++Yh cs=p++b :: t:=h
   have hone:Zm (Lib.encodeRune c)=true:=by
     have:=Wi (cs:=[c]) (by simp [hk.1])
     simpa [Yh] using this
   rcases List.append_eq_append_iff.1 h' with ⟨q,hp,hq⟩|⟨q,hp,hq⟩
   · have:=Se hb cs q hk.2 hq
     exact ⟨by rw [hp,Ft hone];exact this.1,this.2⟩
   · cases q with
     | nil =>
       rw [List.append_nil] at hp;have hq:b :: t=Yh cs:=hq;have:=Se hb cs [] hk.2 (by rw [List.nil_append];exact hq.symm);exact ⟨by rw [← hp];exact hone,this.2⟩
     | cons d q =>
       have hd:d=b:=by have:=(List.cons.inj hq).1;exact this.symm
       subst hd;have hq2:t=q++Yh cs:=(List.cons.inj hq).2
       by_cases hc:128≤c
       · have:=Dq hc d (by rw [hp];simp)
         omega
       · rw [Ba hok.1 (by omega)] at hp
         cases p with
         | cons x p=>simp at hp
         | nil =>
           have:q=[]:=by simpa using (List.cons.inj hp).2.symm
           subst this;rw [List.nil_append] at hq2;exact ⟨rfl,by rw [hq2];exact Wi hk.2⟩
theorem Xy {b:UInt8} (hb:b.toNat < 128) {p t:List UInt8} (h:Zm (p++b :: t)=true):Zm p=true∧Zm t=true:=by
 obtain ⟨cs,h1,h2⟩:=Zya h;exact Se hb cs p h1 h2
theorem Rr:∀ b:UInt8,Gv b=true→b.toNat < 128:=Y8 (by decide +kernel)
theorem Yl6:∀ b:UInt8,(Mx b).isSome=true→b.toNat < 128:=Y8 (by decide +kernel)
theorem Yiw:∀ b:UInt8,(match Mx b with|some x=>decide (x.toNat < 128)|none=>true)=true:=Y8 (by decide +kernel)
theorem Yho {l:List UInt8} {u:Int} (h:Zo l=some u):∀ x ∈ l.take 6,x.toNat < 128:=by
 unfold Zo at h
 split at h
 · rename_i x y a b c d r
   split at h
   · rename_i hh
     simp only [Bool.and_eq_true,beq_iff_eq] at hh;obtain ⟨⟨⟨⟨⟨h1,h2⟩,h3⟩,h4⟩,h5⟩,h6⟩:=hh;intro z hz;have hz:z=x∨z=y∨z=a∨z=b∨z=c∨z=d:=by simpa using hz
     rcases hz with rfl|rfl|rfl|rfl|rfl|rfl
     · subst h1;decide
     · subst h2;decide
     · exact Rr _ h3
     · exact Rr _ h4
     · exact Rr _ h5
     · exact Rr _ h6
   · cases h
 · cases h
theorem Ycj:∀ (n:Nat) (l:List UInt8),l.length≤n→∀ x ∈ l.take (6*(Yv l).length),x.toNat < 128
 | 0,l,h,x,hx=>by
   have:l=[]:=List.eq_nil_of_length_eq_zero (by omega);subst this;simp at hx
 | n + 1,l,h,x,hx=>by
   cases hu:Zo l with
   | none=>rw [Vx hu] at hx;simp at hx
   | some u =>
     have hl:=V4 hu;rw [Fq hu,List.length_cons,show 6*((Yv (l.drop 6)).length+1)=6+6*(Yv (l.drop 6)).length by omega,List.take_add] at hx;rcases List.mem_append.1 hx with hx|hx
     · exact Yho hu x hx
     · exact Ycj n (l.drop 6) (by rw [List.length_drop];omega) x hx
theorem Zx0 {l : List UInt8} {q:List UInt8 × Nat} (h:Ow l=some q) (hh:∃ t,l=92 :: t) (hg:Zm l=true):Zm q.1=true∧Zm (l.drop q.2)=true:=by
 unfold Ow at h
 split at h
 · obtain ⟨t0,ht0⟩:=hh
   subst ht0
   cases t0 with
   | nil=>cases h
   | cons c r =>
     change (Mx c).map (fun x=>([x],2))=some q at h
     cases he:Mx c with
     | none=>rw [he] at h;cases h
     | some x =>
       rw [he] at h;have h:=Option.some.inj h;subst h;have hx:=Yiw c;rw [he] at hx;have hc:=Yl6 c (by rw [he];rfl);rw [Zi _ (by decide),Zi _ hc] at hg
       exact ⟨Yiy (by intro z hz;have:z=x:=by simpa using hz
                      subst this;simpa using hx),hg⟩
 · cases hj:Vo (Yv l) with
   | none=>rw [hj] at h;cases h
   | some x =>
     rw [hj] at h;have h:=Option.some.inj h;subst h;unfold Vo at hj
     cases hp:Xq (Yv l) with
     | none=>rw [hp] at hj;cases hj
     | some cs =>
       rw [hp] at hj;have hj:=Option.some.inj hj;subst hj;refine ⟨Wi (Lg _ _ _ (Nat.le_refl _) hp).2,?_⟩;have:=V3 (l.drop (6*(Yv l).length)) (Ycj _ l (Nat.le_refl _));rw [List.take_append_drop] at this;rw [← this];exact hg
theorem Mb : ∀ (n:Nat) (l:List UInt8) (q:List UInt8 × Nat) (p:List UInt8),Ij n l=some q→Zm (p++l)=true→Zm (p++q.1)=true
 | 0,_,_,_,h,_=>by cases h
 | _+1,[],_,_,h,_=>by cases h
 | n + 1,b :: t,q,p,h,hg=>by
   rw [Ij] at h
   split at h
   · rename_i hb
     have hb:b=34:=by simpa using hb
     subst hb
     cases h
     rw [List.append_nil];exact (Xy (by decide) hg).1
   · split at h
     · cases h
     · split at h
       · rename_i hb
         have hb:b=92:=by simpa using hb
         subst hb;have hs:=Xy (by decide) hg
         cases he:Ow (92 :: t) with
         | none=>rw [he] at h;cases h
         | some e =>
           rw [he] at h;simp only at h;obtain ⟨e1,e2⟩:=Zx0 he ⟨t,rfl⟩ (by rw [Zi _ (by decide)];exact hs.2)
           cases hr:Ij n ((92 :: t).drop e.2) with
           | none=>rw [hr] at h;cases h
           | some r =>
             rw [hr] at h;have h:=Option.some.inj h;subst h;have:=Mb n _ r [] hr e2
             show Zm (p++(e.1++r.1))=true;rw [Ft hs.1,Ft e1];exact this
       · cases hr:Ij n t with
         | none=>rw [hr] at h;cases h
         | some r =>
           rw [hr] at h;have h:=Option.some.inj h;subst h;have:=Mb n t r (p++[b]) hr (by simpa using hg)
           simpa using this
theorem Qo:∀ (n:Nat) (l:List UInt8) (q:List UInt8 × Nat) (p:List UInt8),Sj n l=some q→Zm (p++l)=true→Zm (p++q.1)=true
 | 0,_,_,_,h,_=>by cases h
 | _+1,[],_,_,h,_=>by cases h
 | n + 1,b :: t,q,p,h,hg=>by
   rw [Sj] at h
   split at h
   · rename_i hb
     cases h
     unfold pre at hb;rw [List.isPrefixOf_iff_prefix] at hb;obtain ⟨z,hz⟩:=hb;rw [List.append_nil];rw [← hz] at hg;exact (Xy (b:=34) (by decide) hg).1
   · split at h
     · rename_i hb
       unfold pre at hb;rw [List.isPrefixOf_iff_prefix] at hb;obtain ⟨z,hz⟩:=hb;have hz:b :: t=92 :: 34 :: 34 :: 34 :: z:=hz.symm;rw [hz] at hg h;have hs:=Xy (b:=92) (by decide) hg;rw [Zi _ (by decide),Zi _ (by decide),Zi _ (by decide)] at hs
       cases hr:Sj n z with
       | none=>simp only [List.drop_succ_cons,List.drop_zero,hr] at h;cases h
       | some r =>
         simp only [List.drop_succ_cons,List.drop_zero,hr] at h;have h:=Option.some.inj h;subst h;have:=Qo n z r [] hr hs.2
         show Zm (p++([34,34,34]++r.1))=true
         rw [Ft hs.1, V3 _ (by intro x hx;have:x=34:=by simpa using hx
                               subst this;decide)];exact this
     · cases hr:Sj n t with
       | none=>rw [hr] at h;cases h
       | some r =>
         rw [hr] at h;have h:=Option.some.inj h;subst h;have:=Qo n t r (p++[b]) hr (by simpa using hg)
         simpa using this
theorem Zvy (l:List UInt8):l=Blk.firstL l++l.dropWhile fun c=>!Blk.eolB c:=(List.takeWhile_append_dropWhile).symm
theorem Ynd {c:UInt8} (h:Blk.eolB c=true):c.toNat < 128:=by
 have:∀ b:UInt8,Blk.eolB b=true→b.toNat < 128:=Y8 (by decide +kernel);exact this c h
theorem Bh {p:UInt8→Bool} : ∀ {l:List UInt8} {c:UInt8} {t:List UInt8},l.dropWhile p=c :: t→p c=false
 | [],_,_,h=>by cases h
 | d :: l,c,t,h=>by
   rw [List.dropWhile_cons] at h
   split at h
   · exact Bh h
   · rename_i hd
     cases h;simpa using hd
theorem Zy1:∀ (n:Nat) (l:List UInt8),l.length < n→Zm l=true→∀ x ∈ Blk.linesL l,Zm x=true:=by
 intro n
 induction n with
 | zero=>intro l h;omega
 | succ n ih =>
   intro l hn hg x hx;rw [Blk.linesL_eq] at hx;have hfr:=Zvy l
   have key:Zm (Blk.firstL l)=true∧∀ t,Blk.afterL l=some t→Zm t=true:=by
     cases hd:l.dropWhile fun c=>!Blk.eolB c with
     | nil =>
       rw [hd,List.append_nil] at hfr;refine ⟨by rw [← hfr];exact hg,fun t ht=>?_⟩;unfold Blk.afterL at ht;rw [hd] at ht;cases ht
     | cons c r =>
       rw [hd] at hfr;have hc:Blk.eolB c=true:=by have:=Bh hd;simpa using this
       rw [hfr] at hg;have hs:=Xy (Ynd hc) hg;refine ⟨hs.1,fun t ht=>?_⟩;unfold Blk.afterL at ht;rw [hd] at ht;simp only at ht
       split at ht
       · cases r with
         | nil=>cases ht;exact hs.2
         | cons d r =>
           simp only at ht
           split at ht
           · rename_i hd10
             cases ht
             have:=hs.2;rw [hd10,Zi _ (by decide)] at this;exact this
           · cases ht;exact hs.2
       · cases ht;exact hs.2
   rcases List.mem_cons.1 hx with e|e
   · rw [e];exact key.1
   · cases ha:Blk.afterL l with
     | none=>rw [ha] at e;cases e
     | some t =>
       rw [ha] at e;exact ih t (by have:=Blk.afterL_len ha;omega) (key.2 t ha) x e
theorem Yb7:∀ b:UInt8,Blk.blankB b=true→b.toNat < 128:=Y8 (by decide +kernel)
theorem Zvz {x:List UInt8} {n:Nat} (h:∀ c ∈ x.take n,Blk.blankB c=true) (hg:Zm x=true):Zm (x.drop n)=true:=by
 have:=V3 (x.drop n) (fun c hc=>Yb7 c (h c hc));rw [List.take_append_drop] at this;rw [← this];exact hg
theorem Ykw (v:Int) (x:List UInt8) (hv:0≤v):Blk.stepI v x≤v:=by
 unfold Blk.stepI;split<;>omega
theorem Zji (v:Int) (x:List UInt8) (hv:0≤v):0≤Blk.stepI v x:=by
 unfold Blk.stepI;split<;>omega
theorem Yd7:∀ (ls:List (List UInt8)) (v:Int),0≤v→ls.foldl Blk.stepI v≤v∧0≤ls.foldl Blk.stepI v
 | [],v,h=>⟨Int.le_refl _,h⟩
 | x :: ls,v,h=>by
   rw [List.foldl_cons];have h1:=Yd7 ls _ (Zji v x h);exact ⟨Int.le_trans h1.1 (Ykw v x h),h1.2⟩
theorem Zqq:∀ (ls:List (List UInt8)) (v:Int) (x:List UInt8),x ∈ ls→Blk.inkB x=true→ls.foldl Blk.stepI v≤(Blk.leadN x:Int)
 | [],_,_,h,_=>by cases h
 | y :: ls,v,x,h,hi=>by
   rw [List.foldl_cons];rcases List.mem_cons.1 h with e|e
   · subst e
     have hs:Blk.stepI v x≤(Blk.leadN x:Int)∧0≤Blk.stepI v x:=by
      unfold Blk.stepI
      by_cases hc:v < 0∨(Blk.leadN x:Int) < v
      · rw [if_pos ⟨hi,hc⟩];omega
      · rw [if_neg (fun e=>hc e.2)];omega
     exact Int.le_trans (Yd7 ls _ hs.2).1 hs.1
   · exact Zqq ls _ x e hi
theorem Zzb:∀ (x:List UInt8) (n:Nat),n≤Blk.leadN x→∀ c ∈ x.take n,Blk.blankB c=true
 | [],_,_,c,hc=>by simp at hc
 | b :: t,0,_,c,hc=>by simp at hc
 | b :: t,n+1,h,c,hc=>by
   unfold Blk.leadN at h;rw [List.takeWhile_cons] at h
   split at h
   · rename_i hb
     rw [List.take_succ_cons] at hc;rcases List.mem_cons.1 hc with e|e
     · rw [e];exact hb
     · exact Zzb t n (by unfold Blk.leadN;simpa using h) c e
   · simp at h
theorem Ypx {x:List UInt8} (h:Blk.inkB x=false):∀ c ∈ x,Blk.blankB c=true:=by
 intro c hc;unfold Blk.inkB at h;rw [List.any_eq_false] at h;have:=h c hc
 simpa using this
theorem Zq2:∀ ls:List (List UInt8),(∀ x ∈ ls,Zm x=true)→Zm (Blk.joinTen ls)=true
 | [],_=>rfl
 | [x],h=>h x (by simp)
 | x :: y :: t,h=>by
   show Zm (x++10 :: Blk.joinTen (y :: t))=true;rw [Ft (h x (by simp)),Zi _ (by decide)];exact Zq2 (y :: t) fun z hz=>h z (by simp [hz])
theorem Zyj {raw:List UInt8} (hg:Zm raw=true):Zm (Blk.valueL raw)=true:=by
 have hl:=Zy1 _ raw (Nat.lt_succ_self _) hg;refine Zq2 _ fun x hx=>?_;have hx:x ∈ Blk.cutL (max (Blk.indentL (Blk.linesL raw)) 0).toNat (Blk.linesL raw):=(Blk.trim_infix _).subset hx
 cases hls:Blk.linesL raw with
 | nil=>rw [hls] at hx;cases hx
 | cons y t =>
   rw [hls] at hx hl;rcases List.mem_cons.1 hx with e|e
   · rw [e];exact hl y (by simp)
   · obtain ⟨z,hz,rfl⟩:=List.mem_map.1 e
     refine Zvz ?_ (hl z (by simp [hz]))
     cases hi:Blk.inkB z with
     | false=>exact fun c hc=>Ypx hi c (List.mem_of_mem_take hc)
     | true =>
       refine Zzb z _ ?_;have:Blk.indentL (y :: t)≤(Blk.leadN z:Int):=Zqq t (-1) z hz hi;omega
theorem Gw {l:List UInt8} {q:List UInt8 × Nat} (h:Xx l=some q):(∃ z r,l=34 :: 34 :: 34 :: z∧Pb z=some r∧q=(Blk.valueL r.1,3+r.2))∨(∃ t r,l=34 :: t∧J7 t=some r∧q=(r.1,1+r.2)):=by
 cases l with
 | nil=>cases h
 | cons b t =>
   have e:Xx (b :: t)=if pre [34,34,34] (b :: t) then (Pb ((b :: t).drop 3)).map fun q=>(Blk.valueL q.1,3+q.2) else if b == 34 then (J7 t).map fun q=>(q.1,1+q.2) else none:=rfl;rw [e] at h
   by_cases hb:pre [34,34,34] (b :: t)=true
   · rw [if_pos hb] at h
     unfold pre at hb;rw [List.isPrefixOf_iff_prefix] at hb;obtain ⟨z,hz⟩:=hb;have hz:b :: t=34 :: 34 :: 34 :: z:=hz.symm;rw [hz] at h
     cases hr:Pb z with
     | none=>simp only [List.drop_succ_cons,List.drop_zero,hr] at h;cases h
     | some r =>
       simp only [List.drop_succ_cons,List.drop_zero,hr] at h;exact .inl ⟨z,r,hz,hr,(Option.some.inj h).symm⟩
   · rw [if_neg hb] at h
     by_cases hc:(b == 34)=true
     · rw [if_pos hc] at h
       have hc:b=34:=by simpa using hc
       subst hc
       cases hr:J7 t with
       | none=>rw [hr] at h;cases h
       | some r =>
         rw [hr] at h;exact .inr ⟨t,r,rfl,hr,(Option.some.inj h).symm⟩
     · rw [if_neg hc] at h;cases h
theorem Zys {l:List UInt8} {q:List UInt8 × Nat} (h:Xx l=some q) (hg:Zm l=true):Zm q.1=true:=by
 rcases Gw h with ⟨z,r,rfl,hr,rfl⟩|⟨t,r,rfl,hr,rfl⟩
 · rw [Zi _ (by decide),Zi _ (by decide),Zi _ (by decide)] at hg
   exact Zyj (Qo _ z r [] hr hg)
 · rw [Zi _ (by decide)] at hg
   exact Mb _ t r [] hr hg
theorem Sc : ∀ (n:Nat) (l:List UInt8) (q:List UInt8 × Nat),Ij n l=some q→q.1.length≤q.2
 | 0,_,_,h=>by cases h
 | _+1,[],_,h=>by cases h
 | n + 1,b :: t,q,h=>by
   rw [Ij] at h
   split at h
   · cases h;simp
   · split at h
     · cases h
     · split at h
       · cases he:Ow (b :: t) with
         | none=>rw [he] at h;cases h
         | some e =>
           rw [he] at h;simp only at h;have h1:=Zqs he
           cases hr:Ij n ((b :: t).drop e.2) with
           | none=>rw [hr] at h;cases h
           | some r =>
             rw [hr] at h;have h:=Option.some.inj h;subst h;have:=Sc n _ r hr;simp;omega
       · cases hr:Ij n t with
         | none=>rw [hr] at h;cases h
         | some r =>
           rw [hr] at h;have h:=Option.some.inj h;subst h;have:=Sc n _ r hr;simp;omega
theorem Yer {l:List UInt8} {q:List UInt8 × Nat} (h:Xx l=some q):q.1.length≤l.length:=by
 have hle:=(Ct h).2;rcases Gw h with ⟨z,r,rfl,hr,rfl⟩|⟨t,r,rfl,hr,rfl⟩
 · have h1:=Ycx _ _ r hr
   have h2:=Blk.value_len r.1;simp only at hle ⊢;omega
 · have h1:=Sc _ _ r hr
   simp only at hle ⊢;omega
theorem C4 : ∀ (n:Nat) (l:List UInt8) (q:List UInt8 × Nat) (p:List UInt8),Ij n l=some q→Zm (p++l)=true→Zm (l.drop q.2)=true
 | 0,_,_,_,h,_=>by cases h
 | _+1,[],_,_,h,_=>by cases h
 | n + 1,b :: t,q,p,h,hg=>by
   rw [Ij] at h
   split at h
   · rename_i hb
     have hb:b=34:=by simpa using hb
     subst hb
     cases h
     exact (Xy (by decide) hg).2
   · split at h
     · cases h
     · split at h
       · rename_i hb
         have hb:b=92:=by simpa using hb
         subst hb;have hs:=Xy (by decide) hg
         cases he:Ow (92 :: t) with
         | none=>rw [he] at h;cases h
         | some e =>
           rw [he] at h;simp only at h;obtain ⟨_,e2⟩:=Zx0 he ⟨t,rfl⟩ (by rw [Zi _ (by decide)];exact hs.2)
           cases hr:Ij n ((92 :: t).drop e.2) with
           | none=>rw [hr] at h;cases h
           | some r =>
             rw [hr] at h;have h:=Option.some.inj h;subst h;have:=C4 n _ r [] hr e2
             rwa [List.drop_drop] at this
       · cases hr:Ij n t with
         | none=>rw [hr] at h;cases h
         | some r =>
           rw [hr] at h;have h:=Option.some.inj h;subst h;have:=C4 n t r (p++[b]) hr (by simpa using hg)
           show Zm ((b :: t).drop (1+r.2))=true;rw [show 1+r.2=r.2+1 by omega,List.drop_succ_cons];exact this
theorem Wt:∀ (n:Nat) (l:List UInt8) (q:List UInt8 × Nat) (p:List UInt8),Sj n l=some q→Zm (p++l)=true→Zm (l.drop q.2)=true
 | 0,_,_,_,h,_=>by cases h
 | _+1,[],_,_,h,_=>by cases h
 | n + 1,b :: t,q,p,h,hg=>by
   rw [Sj] at h
   split at h
   · rename_i hb
     cases h
     unfold pre at hb;rw [List.isPrefixOf_iff_prefix] at hb;obtain ⟨z,hz⟩:=hb;have hz:b :: t=34 :: 34 :: 34 :: z:=hz.symm;rw [hz] at hg ⊢;have hs:=(Xy (b:=34) (by decide) hg).2;rw [Zi _ (by decide),Zi _ (by decide)] at hs;exact hs
   · split at h
     · rename_i hb
       unfold pre at hb;rw [List.isPrefixOf_iff_prefix] at hb;obtain ⟨z,hz⟩:=hb;have hz:b :: t=92 :: 34 :: 34 :: 34 :: z:=hz.symm;rw [hz] at hg h ⊢;have hs:=Xy (b:=92) (by decide) hg;rw [Zi _ (by decide),Zi _ (by decide),Zi _ (by decide)] at hs
       cases hr:Sj n z with
       | none=>simp only [List.drop_succ_cons,List.drop_zero,hr] at h;cases h
       | some r =>
         simp only [List.drop_succ_cons,List.drop_zero,hr] at h;have h:=Option.some.inj h;subst h;have:=Wt n z r [] hr hs.2
         show Zm ((92 :: 34 :: 34 :: 34 :: z).drop (4+r.2))=true;rw [show 4+r.2=r.2+4 by omega];exact this
     · cases hr:Sj n t with
       | none=>rw [hr] at h;cases h
       | some r =>
         rw [hr] at h;have h:=Option.some.inj h;subst h;have:=Wt n t r (p++[b]) hr (by simpa using hg)
         show Zm ((b :: t).drop (1+r.2))=true;rw [show 1+r.2=r.2+1 by omega,List.drop_succ_cons];exact this
theorem Zqn {l:List UInt8} {q:List UInt8 × Nat} (h:Xx l=some q) (hg:Zm l=true):Zm (l.drop q.2)=true:=by
 rcases Gw h with ⟨z,r,rfl,hr,rfl⟩|⟨t,r,rfl,hr,rfl⟩
 · rw [Zi _ (by decide),Zi _ (by decide),Zi _ (by decide)] at hg
   have:=Wt _ z r [] hr hg
   show Zm ((34 :: 34 :: 34 :: z).drop (3+r.2))=true;rw [show 3+r.2=r.2+3 by omega];exact this
 · rw [Zi _ (by decide)] at hg
   have:=C4 _ t r [] hr hg
   show Zm ((34 :: t).drop (1+r.2))=true;rw [show 1+r.2=r.2+1 by omega];exact this
theorem Yg1 {l:List UInt8} {t:(Int × List UInt8) × Nat} (h:Lb l=some t) (hg:Zm l=true):Oj t.1=true∧t.1.2.length≤l.length∧Zm (l.drop t.2)=true:=by
 unfold Lb at h
 split at h
 · rename_i hm
   have h:=Option.some.inj h;subst h
   cases l with
   | nil=>exact absurd rfl hm
   | cons b r =>
     simp only [J6] at hm ⊢
     split at hm
     · rename_i hb
       rw [if_pos hb];unfold pre at hb;rw [List.isPrefixOf_iff_prefix] at hb;obtain ⟨z,hz⟩:=hb;have hz:b :: r=46 :: 46 :: 46 :: z:=hz.symm;rw [hz] at hg ⊢;rw [Zi _ (by decide),Zi _ (by decide),Zi _ (by decide)] at hg;exact ⟨by simp [Oj,J6,pre,List.isPrefixOf],by simp,hg⟩
     · rename_i hb
       rw [if_neg hb] at ⊢
       split at hm
       · rename_i hi
         rw [if_pos hi]
         have ha:b.toNat < 128:=by
           have:∀ b:UInt8,Jz b=true→b.toNat < 128:=Y8 (by decide +kernel);exact this b hi
         rw [Zi _ ha] at hg;refine ⟨?_,by simp,hg⟩;have hp:pre [46,46,46] [b]=false:=by simp [pre,List.isPrefixOf]
         simp [Oj,J6,hp,hi]
       · exact absurd rfl hm
 · split at h
   · rename_i hw
     have h:=Option.some.inj h;subst h;have hn:=Sk hw;refine ⟨hn,by simp only [List.length_take];omega,?_⟩
     have:=V3 (l.drop (Je l)) (a:=l.take (Je l)) (fun x hx=>by
       have hx:=List.all_eq_true.1 (Yar hn) x hx;unfold Zj9 at hx;rw [Bool.and_eq_true] at hx
       simpa using hx.2)
     rw [List.take_append_drop] at this;rw [← this];exact hg
   · split at h
     · rename_i hnu
       have h:=Option.some.inj h;subst h;obtain ⟨h1,h2⟩:=Zjc hnu;have hk:Jf (l.take (nbL l).1) ≠ 0:=by rw [h1];omega
       refine ⟨?_,by simp only [List.length_take];omega,?_⟩
       · have e1:(nbL l).2 ≠ 1:=by omega
         have e2:(nbL l).2 ≠ 2:=by omega
         simp only [Oj,e1,e2,if_false,h2,if_true,h1,decide_true]
       · have hs:=(Zzp hk).2.1
         have:=Ft (Gf hs) (l.drop (nbL l).1);rw [List.take_append_drop] at this;rw [← this];exact hg
     · cases hq:Xx l with
       | none=>rw [hq] at h;cases h
       | some q =>
         rw [hq] at h;have h:=Option.some.inj h;subst h;refine ⟨?_,Yer hq,?_⟩
         · show Oj (5,q.1)=true
           exact Zys hq hg
         · exact Zqn hq hg
theorem Ygy {l:List UInt8} (h:Jy l ≠ 0) (hg:Zm l=true):Zm (l.drop (Jy l))=true:=by
 cases l with
 | nil=>exact hg
 | cons b t =>
   by_cases h1:Lf b=true
   · have ha:b.toNat < 128:=by
       have:∀ b:UInt8,Lf b=true→b.toNat < 128:=Y8 (by decide +kernel);exact this b h1
     rw [show Jy (b :: t)=1 by simp [Jy,h1]];rw [Zi _ ha] at hg;exact hg
   · by_cases h2:(b == 35)=true
     · have hb:b=35:=by simpa using h2
       subst hb;rw [show Jy (35 :: t)=1+(t.takeWhile Jt).length by simp [Jy,Lf]];rw [Zi _ (by decide)] at hg;rw [show 1+(t.takeWhile Jt).length=(t.takeWhile Jt).length+1 by omega,List.drop_succ_cons];have e:t=t.takeWhile Jt++t.dropWhile Jt:=(List.takeWhile_append_dropWhile).symm
       have e2:t.drop (t.takeWhile Jt).length=t.dropWhile Jt:=by
         have:∀ a b:List UInt8,(a++b).drop a.length=b:=fun a b=>List.drop_left;have h7:=this (t.takeWhile Jt) (t.dropWhile Jt)
         rwa [← e] at h7
       rw [e2]
       cases hd:t.dropWhile Jt with
       | nil=>rfl
       | cons c r =>
         have hc:=Bh hd
         have ha:c.toNat < 128:=by
           have:∀ b:UInt8,Jt b=false→b.toNat < 128:=Y8 (by decide +kernel);exact this c hc
         rw [e,hd] at hg;rw [Zi _ ha];exact (Xy ha hg).2
     · have h3:pre [239,187,191] (b :: t)=true:=by
         by_cases h3:pre [239,187,191] (b :: t)=true
         · exact h3
         · exact absurd (by simp [Jy,h1,h2,h3]) h
       rw [show Jy (b :: t)=3 by simp [Jy,h1,h2,h3]];unfold pre at h3;rw [List.isPrefixOf_iff_prefix] at h3;obtain ⟨z,hz⟩:=h3;rw [← hz] at hg ⊢;have e:Zm ([239,187,191]++z)=Zm z:=Ft (by decide +kernel) z;rw [e] at hg;exact hg
theorem Wu : ∀ (n:Nat) (l:List UInt8) ts,Iy n l=some ts→Zm l=true→ts.all Oj=true∧∀ t ∈ ts,t.2.length≤l.length
 | 0,_,_,h,_=>by cases h
 | n + 1,l,ts,h,hg=>by
   rw [Iy] at h
   split at h
   · rename_i h0
     obtain ⟨h1,h2⟩:=Wu n _ ts h (Ygy h0 hg);exact ⟨h1,fun t ht=>Nat.le_trans (h2 t ht) (by rw [List.length_drop];omega)⟩
   · split at h
     · cases h
       exact ⟨rfl,fun t ht=>by cases ht⟩
     · cases hk:Lb l with
       | none=>rw [hk] at h;cases h
       | some p =>
         rw [hk] at h;obtain ⟨g1,g2,g3⟩:=Yg1 hk hg
         cases hr:Iy n (l.drop p.2) with
         | none=>simp only [hr] at h;cases h
         | some us =>
           simp only [hr] at h;have h:=Option.some.inj h;subst h;obtain ⟨h1,h2⟩:=Wu n _ us hr g3;refine ⟨by rw [List.all_cons,g1,h1];rfl,fun t ht=>?_⟩;rcases List.mem_cons.1 ht with e|e
           · rw [e];exact g2
           · exact Nat.le_trans (h2 t e) (by rw [List.length_drop];omega)
theorem Zzr (l:List UInt8):(Zz l).1.all Oj=true∧∀ t ∈ (Zz l).1,t.2.length≤l.length:=by
 unfold Zz
 split
 · exact ⟨rfl,fun t ht=>by cases ht⟩
 · split
   · exact ⟨rfl,fun t ht=>by cases ht⟩
   · rename_i h0 h1
     have hs:X7 l=true:=by cases h:X7 l with
      | true=>rfl
      | false=>exact absurd h h1
     cases h:Ua l with
     | none=>exact ⟨rfl,fun t ht=>by cases ht⟩
     | some ts=>exact Wu _ l ts h (Gf hs)
theorem Mr {s:ByteArray} (hs:s.size≤9000):Yn (C8 (Zz s.data.toList).1):=by
 obtain ⟨h1,h2⟩:=Zzr s.data.toList;have h3:s.data.toList.length=s.size:=Array.length_toList;refine ⟨fun t ht=>?_,Zk4 hs⟩;unfold C8 at ht;obtain ⟨u,hu,rfl⟩:=List.mem_map.1 ht;have hl:=h2 u hu;have hr:=List.all_eq_true.1 h1 u hu;refine ⟨by show (⟨u.2.toArray⟩:ByteArray).size≤9000;rw [Lib.size_eq];show u.2.length≤9000;omega,fun hk=>?_⟩;have hk:u.1=3:=hk
 show Jf u.2.toArray.toList=3;rw [List.toList_toArray];unfold Oj at hr;rw [hk] at hr
 simpa using hr
end Go.Proofs.YtkmloefbkgcbkaaGreatDoor
