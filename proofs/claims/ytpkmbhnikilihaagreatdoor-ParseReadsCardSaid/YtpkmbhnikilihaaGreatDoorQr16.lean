/- The landed Type: what the reader of tokens refuses. -/
import Derived.Test.YtpkmbhnikilihaaGreatDoorQr15
set_option maxRecDepth 100000
set_option maxHeartbeats 4000000
namespace Go.Proofs.YtpkmbhnikilihaaGreatDoor
open Go.RowKit
theorem Zqq {s:ByteArray} (hs:s.size≤9000):Ih (Lj (Zq s.data.toList).1):=by
 unfold Zq
 split
 · intro t ht;cases ht
 · split
   · intro t ht;cases ht
   · cases h:Uc s.data.toList with
     | none=>intro t ht;cases ht
     | some ts=>exact Zv4 hs h
theorem Ba : ∀ (n:Nat) (l:List UInt8) ts,Iz n l=some ts→ts.length≤n
 | 0,_,_,h=>by cases h
 | n + 1,l,ts,h=>by
   rw [Iz] at h
   split at h
   · exact Nat.le_succ_of_le (Ba n _ ts h)
   · split at h
     · cases h;simp
     · cases hk:Lb l with
       | none=>rw [hk] at h;cases h
       | some p =>
         rw [hk] at h
         cases hr:Iz n (l.drop p.2) with
         | none=>simp only [hr] at h;cases h
         | some us =>
           simp only [hr] at h
           have h:=Option.some.inj h
           subst h
           have:=Ba n _ us hr
           simp;omega
theorem Bx {s:ByteArray} (hs:s.size≤9000):(Zq s.data.toList).1.length≤9001:=by
 have h3:s.data.toList.length=s.size:=Array.length_toList
 unfold Zq
 split
 · simp
 · split
   · simp
   · cases h:Uc s.data.toList with
     | none=>simp
     | some ts=>have:=Ba _ _ ts h;show ts.length≤_;omega
def Ee (w:World) (A:Option Addr) (cap:Nat) (ts:List (Int × List UInt8)):Prop:=(∀ (j:Nat) v,(X7 ts)[j]? = some v→∃ g,A=some ⟨g,0,none⟩∧g < w.heap.size∧w.cell? ⟨g,j,none⟩=some v)∧ts.length≤cap
theorem Ee.on {w w':World} {A:Option Addr} {cap:Nat} {ts:List (Int × List UInt8)} (h:Ee w A cap ts) (hb:Below w.heap.size w w'):Ee w' A cap ts:=
 ⟨fun j v hv=>by
  obtain ⟨g,hA,hg,hc⟩:=h.1 j v hv
  exact ⟨g,hA,by have:=hb.size;omega,(hb.cell (p:=⟨g,j,none⟩) hg).trans hc⟩,h.2⟩
theorem Ydu {w:World} {base:Nat} {A:Option Addr} {cap:Nat} {ts:List (Int × List UInt8)} (h:w.ownsRow base 70 2 (.slice A ts.length cap) ts.length (X7 ts)):Ee w A cap ts:=by
 rcases h.2 with ⟨hv,hn⟩|⟨g,c,cur,hv,hbase,hh,hnc,hm,hcs,htk⟩
 · have hus:ts=[]:=List.eq_nil_of_length_eq_zero hn
   subst hus
   injection hv with h1 h2 h3
   exact ⟨fun j v hv=>by simp [X7] at hv,by simp⟩
 · have hv':=hv
   injection hv' with h1 h2 h3
   subst h1 h3
   refine ⟨fun j v hv=>⟨g,rfl,(h.lt g rfl).2,?_⟩,hnc⟩
   have hjl:=(List.getElem?_eq_some_iff.1 hv).1
   rw [Zzf] at hjl
   rw [World.ownsRow.cellAt h j hjl,hv]
theorem Ee.one {w:World} {A:Option Addr} {cap:Nat} {k:Int} {x:List UInt8} (h:Ee w A cap [(k,x)]):∃ g,A=some ⟨g,0,none⟩∧g < w.heap.size∧w.cell? ⟨g,0,none⟩=some (.int .i64 k)∧w.cell? ⟨g,1,none⟩=some (.string ⟨x.toArray⟩):=by
 obtain ⟨g,hA,hg,h0⟩:=h.1 0 _ rfl
 obtain ⟨g',hA',_,h1⟩:=h.1 1 _ rfl
 subst hA
 injection hA' with e
 injection e with e1
 subst e1
 exact ⟨g,rfl,hg,h0,h1⟩
def K3 (w wx:World):Prop:=Jw wx∧Below w.heap.size w wx
theorem K3.start {w:World} (h:Jw w):K3 w w:=⟨h,Below.refl _ _⟩
theorem K3.next {w wx wy:World} (h:K3 w wx) (hb:Below wx.heap.size wx wy):K3 w wy:=⟨h.1.below hb,h.2.trans (hb.mono h.2.size)⟩
theorem K3.alloc {w wx:World} (h:K3 w wx) (o:Obj):K3 w (wx.alloc o):=h.next ((Below.refl _ _).alloc (Nat.le_refl _) o)
namespace LNumbers
end LNumbers
open Go.RowKit
namespace LUnits
end LUnits
def Oo (t:Int × List UInt8):Bool:=
 if t.1=1 then decide (0 < J4 t.2∧J4 t.2=t.2.length) else if t.1=2 then Uk t.2 else if t.1=3∨t.1=4 then decide (Up t.2=t.1) else if t.1=5 then Zi t.2 else false
theorem Zyf {z:Int} (h0:0≤z) (h1:z < 256):((z.toNat.toUInt8).toNat:Int)=z:=Yt h0 h1
theorem Dp {c:Int} (h:128≤c):∀ b ∈ Lib.encodeRune c,128≤b.toNat:=by
 intro b hb
 unfold Lib.encodeRune at hb
 obtain ⟨z,hz,rfl⟩:=List.mem_map.1 hb
 have hb:=Lib.encodeRuneZ_byte c z hz
 have hz2:128≤z:=by
  unfold Lib.encodeRuneZ at hz
  split at hz
  · omega
  · split at hz
    · simp at hz;omega
    · split at hz
      · simp at hz;omega
      · split at hz
        · simp at hz;omega
        · simp at hz;omega
 have:=Zyf hb.1 hb.2
 omega
theorem Br {c:Int} (h0:0≤c) (h1:c < 128):Lib.encodeRune c=[c.toNat.toUInt8]:=by
 unfold Lib.encodeRune
 rw [Lib.encodeRuneZ_one h0 (by omega)]
 rfl
theorem Zx8 {n:List UInt8} (hn:Uk n=true):n.all Zzy=true:=by
 have key:∀ b:UInt8,(Qw (b.toNat:Int) || Qt (b.toNat:Int))=true→Zzy b=true:=Zw (by decide +kernel)
 cases n with
 | nil=>rfl
 | cons b t =>
   have:(Qw (b.toNat:Int) && Og t)=true:=hn
   rw [Bool.and_eq_true] at this
   rw [List.all_cons,Bool.and_eq_true]
   refine ⟨key b (by rw [this.1];rfl),List.all_eq_true.2 fun x hx=>key x (List.all_eq_true.1 this.2 x hx)⟩
def bz (n:List UInt8):ByteArray:=⟨n.toArray⟩
theorem Dr (l:List UInt8) (j:Nat):Xe (l.take j)=min j (Xe l):=by
 unfold Xe
 induction l generalizing j with
 | nil=>simp
 | cons b t ih =>
   cases j with
   | zero=>simp
   | succ j =>
     rw [List.take_succ_cons,List.takeWhile_cons,List.takeWhile_cons]
     split
     · simp only [List.length_cons];rw [ih j];omega
     · simp
theorem Ycp {l:List UInt8} {j:Nat} (h:Vp l≤j):Vp (l.take j)=Vp l:=by
 cases l with
 | nil=>simp
 | cons b t =>
   cases j with
   | zero => have:Vp (b :: t)=0:=by omega
             rw [this];rfl
   | succ j =>
     rw [List.take_succ_cons]
     simp only [Vp] at h ⊢
     rw [Dr]
     split
     · rename_i hb
       rw [if_pos hb] at h
       by_cases h0:Xe t=0
       · rw [h0];simp
       · rw [if_neg h0] at h
         rw [show min j (Xe t)=Xe t by omega]
     · rfl
theorem Tu {l:List UInt8} {j:Nat} (h:j ≠ 0):Xo (l.take j)=Xo l:=by
 cases l with
 | nil=>simp
 | cons b t =>
   cases j with
   | zero=>exact absurd rfl h
   | succ j=>rw [List.take_succ_cons];rfl
theorem Yae {l:List UInt8} {j:Nat} (h:Js l≤j):Js (l.take j)=Js l:=by
 cases l with
 | nil=>simp
 | cons b t =>
   cases j with
   | zero => have:Js (b :: t)=0:=by omega
             rw [this];rfl
   | succ j =>
     rw [List.take_succ_cons]
     simp only [Js] at h ⊢
     split
     · rename_i hb
       rw [if_pos hb] at h
       by_cases h0:Xe (t.drop (Xo t))=0
       · rw [if_pos h0] at h
         rw [if_pos h0]
         have:Xe ((t.take j).drop (Xo (t.take j)))=0:=by
           by_cases hj:j=0
           · subst hj;simp [Xe]
           · rw [Tu hj,List.drop_take,Dr,h0];simp
         rw [if_pos this]
       · rw [if_neg h0] at h
         have hj:j ≠ 0:=by omega
         rw [Tu hj,List.drop_take,Dr,show min (j - Xo t) (Xe (t.drop (Xo t)))=Xe (t.drop (Xo t)) by omega]
     · rfl
theorem Zxg {l:List UInt8} {j:Nat} (h:j ≠ 0):Zm (l.take j)=Zm l:=by
 cases l with
 | nil=>simp
 | cons b t =>
   cases j with
   | zero=>exact absurd rfl h
   | succ j=>rw [List.take_succ_cons];rfl
theorem Zv0 {l:List UInt8} {j:Nat} (h:Y4 l≤j):Y4 (l.take j)=Y4 l:=by
 cases l with
 | nil=>simp
 | cons b t =>
   cases j with
   | zero => have:Y4 (b :: t)=0:=by omega
             rw [this];rfl
   | succ j =>
     have ht:(b :: t).take (j+1)=b :: t.take j:=List.take_succ_cons
     rw [ht]
     simp only [Y4] at h ⊢
     split
     · rfl
     · rename_i hb
       rw [if_neg hb] at h
       rw [← ht,Dr];omega
theorem Zq5 (l:List UInt8):nmL (l.take (nmL l).1)=nmL l:=by
 by_cases h0:Y4 (l.drop (Zm l))=0
 · have e:nmL l=(0,0):=by unfold nmL;rw [if_pos h0]
   rw [e];rfl
 · obtain ⟨m,hm⟩:∃ m,Zm l=m:=⟨_,rfl⟩
   obtain ⟨w,hw⟩:∃ w,Y4 (l.drop m)=w:=⟨_,rfl⟩
   obtain ⟨f,hf⟩:∃ f,Vp (l.drop (m+w))=f:=⟨_,rfl⟩
   obtain ⟨x,hx⟩:∃ x,Js (l.drop (m+w+f))=x:=⟨_,rfl⟩
   have e:nmL l=(m+w+f+x,if f=0∧x=0 then 3 else 4):=by
    unfold nmL
    rw [if_neg h0,hm,hw,hf,hx]
   have hw0:w ≠ 0:=by rw [← hw,← hm];exact h0
   rw [e]
   simp only
   have e1:Zm (l.take (m+w+f+x))=m:=by rw [Zxg (by omega)];exact hm
   have e2:Y4 ((l.take (m+w+f+x)).drop m)=w:=by rw [List.drop_take,Zv0 (by rw [hw];omega)];exact hw
   have e3:Vp ((l.take (m+w+f+x)).drop (m+w))=f:=by rw [List.drop_take,Ycp (by rw [hf];omega)];exact hf
   have e4:Js ((l.take (m+w+f+x)).drop (m+w+f))=x:=by rw [List.drop_take,Yae (by rw [hx];omega)];exact hx
   unfold nmL
   rw [e1,e2,e3,e4,if_neg hw0]
theorem Zqf {l:List UInt8} (h:(nbL l).1 ≠ 0):Up (l.take (nbL l).1)=(nbL l).2∧((nbL l).2=3∨(nbL l).2=4):=by
 have e:nbL l=nmL l:=by
   unfold nbL at h ⊢
   split at h
   · exact absurd rfl h
   · rename_i h1
     split at h
     · exact absurd rfl h
     · rename_i h2
       rw [if_neg h1,if_neg h2]
 rw [e] at h ⊢
 have hle:=L6 l
 have ht:=Zq5 l
 constructor
 · rw [Ydq,ht,if_neg (by rw [List.length_take];omega)]
 · unfold nmL at h ⊢
   split at h
   · exact absurd rfl h
   · rename_i h1
     rw [if_neg h1]
     simp only
     split
     · exact .inl rfl
     · exact .inr rfl
theorem Zxk {l:List UInt8} (h:Zi l=true):∃ cs,cs.all okB=true∧Yf cs=l:=by
 rw [Jd] at h
 cases hc:Jc l with
 | none=>rw [hc] at h;cases h
 | some cs =>
   obtain ⟨a,b⟩:=C4 _ l cs (Nat.le_refl _) hc
   exact ⟨cs,b,a⟩
theorem Oj {cs:List Int} (h:cs.all okB=true):Zi (Yf cs)=true:=by
 rw [Jd]
 have:=Bf cs [] h
 rw [List.append_nil,F8] at this
 rw [this];rfl
theorem L5 {a:List UInt8} (ha:Zi a=true) (b:List UInt8):Zi (a++b)=Zi b:=by
 rw [Jd] at ha ⊢
 rw [Jd]
 cases hc:Jc a with
 | none=>rw [hc] at ha;cases ha
 | some cs =>
   rw [Ty hc]
   cases Jc b<;>rfl
theorem Vd:∀ {a:List UInt8} (b:List UInt8),(∀ x ∈ a,x.toNat < 128)→Zi (a++b)=Zi b
 | [],_,_=>rfl
 | c :: a,b,h=>by rw [List.cons_append,Zd _ (h c (by simp)),Vd b fun x hx=>h x (by simp [hx])]
theorem Yed {a:List UInt8} (h:∀ x ∈ a,x.toNat < 128):Zi a=true:=by
 have:=Vd [] h
 rw [List.append_nil] at this
 rw [this];rfl
theorem Qd {b:UInt8} {t:List UInt8} (hb:b.toNat < 128):∀ (cs:List Int) (p:List UInt8),cs.all okB=true→Yf cs=p++b :: t→Zi p=true∧Zi t=true
 | [],p,_,h=>by have:=congrArg List.length h;simp [Yf] at this
 | c :: cs,p,hk,h=>by
   simp only [List.all_cons,Bool.and_eq_true] at hk
   have hok:0≤c∧c≤1114111∧X3 c=false:=by simpa [okB] using hk.1
   have h':Lib.encodeRune c++Yf cs=p++b :: t:=h
   have hone:Zi (Lib.encodeRune c)=true:=by
     have:=Oj (cs:=[c]) (by simp [hk.1])
     simpa [Yf] using this
   rcases List.append_eq_append_iff.1 h' with ⟨q,hp,hq⟩|⟨q,hp,hq⟩
   · have:=Qd hb cs q hk.2 hq
     exact ⟨by rw [hp,L5 hone];exact this.1,this.2⟩
   · cases q with
     | nil =>
       rw [List.append_nil] at hp
       have hq:b :: t=Yf cs:=hq
       have:=Qd hb cs [] hk.2 (by rw [List.nil_append];exact hq.symm)
       exact ⟨by rw [← hp];exact hone,this.2⟩
     | cons d q =>
       have hd:d=b:=by have:=(List.cons.inj hq).1;exact this.symm
       subst hd
       have hq2:t=q++Yf cs:=(List.cons.inj hq).2
       by_cases hc:128≤c
       · have:=Dp hc d (by rw [hp];simp)
         omega
       · rw [Br hok.1 (by omega)] at hp
         cases p with
         | cons x p=>simp at hp
         | nil =>
           have:q=[]:=by simpa using (List.cons.inj hp).2.symm
           subst this
           rw [List.nil_append] at hq2
           exact ⟨rfl,by rw [hq2];exact Oj hk.2⟩
theorem Xw {b:UInt8} (hb:b.toNat < 128) {p t:List UInt8} (h:Zi (p++b :: t)=true):Zi p=true∧Zi t=true:=by
 obtain ⟨cs,h1,h2⟩:=Zxk h
 exact Qd hb cs p h1 h2
theorem Pi:∀ b:UInt8,Ch b=true→b.toNat < 128:=Zw (by decide +kernel)
theorem Yl1:∀ b:UInt8,(Md b).isSome=true→b.toNat < 128:=Zw (by decide +kernel)
theorem Yh1:∀ b:UInt8,(match Md b with|some x=>decide (x.toNat < 128)|none=>true)=true:=Zw (by decide +kernel)
theorem Ygq {l:List UInt8} {u:Int} (h:Zg l=some u):∀ x ∈ l.take 6,x.toNat < 128:=by
 unfold Zg at h
 split at h
 · rename_i x y a b c d r
   split at h
   · rename_i hh
     simp only [Bool.and_eq_true,beq_iff_eq] at hh
     obtain ⟨⟨⟨⟨⟨h1,h2⟩,h3⟩,h4⟩,h5⟩,h6⟩:=hh
     intro z hz
     have hz:z=x∨z=y∨z=a∨z=b∨z=c∨z=d:=by simpa using hz
     rcases hz with rfl|rfl|rfl|rfl|rfl|rfl
     · subst h1;decide
     · subst h2;decide
     · exact Pi _ h3
     · exact Pi _ h4
     · exact Pi _ h5
     · exact Pi _ h6
   · cases h
 · cases h
theorem Ya9:∀ (n:Nat) (l:List UInt8),l.length≤n→∀ x ∈ l.take (6*(Yv l).length),x.toNat < 128
 | 0,l,h,x,hx=>by
   have:l=[]:=List.eq_nil_of_length_eq_zero (by omega)
   subst this;simp at hx
 | n + 1,l,h,x,hx=>by
   cases hu:Zg l with
   | none=>rw [U3 hu] at hx;simp at hx
   | some u =>
     have hl:=Ve hu
     rw [Fr hu,List.length_cons,show 6*((Yv (l.drop 6)).length+1)=6+6*(Yv (l.drop 6)).length by omega,List.take_add] at hx
     rcases List.mem_append.1 hx with hx|hx
     · exact Ygq hu x hx
     · exact Ya9 n (l.drop 6) (by rw [List.length_drop];omega) x hx
theorem Zjn {l : List UInt8} {q:List UInt8 × Nat} (h:Ot l=some q) (hh:∃ t,l=92 :: t) (hg:Zi l=true):Zi q.1=true∧Zi (l.drop q.2)=true:=by
 unfold Ot at h
 split at h
 · obtain ⟨t0,ht0⟩:=hh
   subst ht0
   cases t0 with
   | nil=>cases h
   | cons c r =>
     change (Md c).map (fun x=>([x],2))=some q at h
     cases he:Md c with
     | none=>rw [he] at h;cases h
     | some x =>
       rw [he] at h
       have h:=Option.some.inj h
       subst h
       have hx:=Yh1 c
       rw [he] at hx
       have hc:=Yl1 c (by rw [he];rfl)
       rw [Zd _ (by decide),Zd _ hc] at hg
       exact ⟨Yed (by intro z hz;have:z=x:=by simpa using hz
                      subst this;simpa using hx),hg⟩
 · cases hj:Vq (Yv l) with
   | none=>rw [hj] at h;cases h
   | some x =>
     rw [hj] at h
     have h:=Option.some.inj h
     subst h
     unfold Vq at hj
     cases hp:Xt (Yv l) with
     | none=>rw [hp] at hj;cases hj
     | some cs =>
       rw [hp] at hj
       have hj:=Option.some.inj hj
       subst hj
       refine ⟨Oj (Lr _ _ _ (Nat.le_refl _) hp).2,?_⟩
       have:=Vd (l.drop (6*(Yv l).length)) (Ya9 _ l (Nat.le_refl _))
       rw [List.take_append_drop] at this
       rw [← this];exact hg
theorem Mb : ∀ (n:Nat) (l:List UInt8) (q:List UInt8 × Nat) (p:List UInt8),Ij n l=some q→Zi (p++l)=true→Zi (p++q.1)=true
 | 0,_,_,_,h,_=>by cases h
 | _+1,[],_,_,h,_=>by cases h
 | n + 1,b :: t,q,p,h,hg=>by
   rw [Ij] at h
   split at h
   · rename_i hb
     have hb:b=34:=by simpa using hb
     subst hb
     cases h
     rw [List.append_nil]
     exact (Xw (by decide) hg).1
   · split at h
     · cases h
     · split at h
       · rename_i hb
         have hb:b=92:=by simpa using hb
         subst hb
         have hs:=Xw (by decide) hg
         cases he:Ot (92 :: t) with
         | none=>rw [he] at h;cases h
         | some e =>
           rw [he] at h
           simp only at h
           obtain ⟨e1,e2⟩:=Zjn he ⟨t,rfl⟩ (by rw [Zd _ (by decide)];exact hs.2)
           cases hr:Ij n ((92 :: t).drop e.2) with
           | none=>rw [hr] at h;cases h
           | some r =>
             rw [hr] at h
             have h:=Option.some.inj h
             subst h
             have:=Mb n _ r [] hr e2
             show Zi (p++(e.1++r.1))=true
             rw [L5 hs.1,L5 e1];exact this
       · cases hr:Ij n t with
         | none=>rw [hr] at h;cases h
         | some r =>
           rw [hr] at h
           have h:=Option.some.inj h
           subst h
           have:=Mb n t r (p++[b]) hr (by simpa using hg)
           simpa using this
theorem Pz:∀ (n:Nat) (l:List UInt8) (q:List UInt8 × Nat) (p:List UInt8),Rh n l=some q→Zi (p++l)=true→Zi (p++q.1)=true
 | 0,_,_,_,h,_=>by cases h
 | _+1,[],_,_,h,_=>by cases h
 | n + 1,b :: t,q,p,h,hg=>by
   rw [Rh] at h
   split at h
   · rename_i hb
     cases h
     unfold pre at hb
     rw [List.isPrefixOf_iff_prefix] at hb
     obtain ⟨z,hz⟩:=hb
     rw [List.append_nil]
     rw [← hz] at hg
     exact (Xw (b:=34) (by decide) hg).1
   · split at h
     · rename_i hb
       unfold pre at hb
       rw [List.isPrefixOf_iff_prefix] at hb
       obtain ⟨z,hz⟩:=hb
       have hz:b :: t=92 :: 34 :: 34 :: 34 :: z:=hz.symm
       rw [hz] at hg h
       have hs:=Xw (b:=92) (by decide) hg
       rw [Zd _ (by decide),Zd _ (by decide),Zd _ (by decide)] at hs
       cases hr:Rh n z with
       | none=>simp only [List.drop_succ_cons,List.drop_zero,hr] at h;cases h
       | some r =>
         simp only [List.drop_succ_cons,List.drop_zero,hr] at h
         have h:=Option.some.inj h
         subst h
         have:=Pz n z r [] hr hs.2
         show Zi (p++([34,34,34]++r.1))=true
         rw [L5 hs.1, Vd _ (by intro x hx;have:x=34:=by simpa using hx
                               subst this;decide)];exact this
     · cases hr:Rh n t with
       | none=>rw [hr] at h;cases h
       | some r =>
         rw [hr] at h
         have h:=Option.some.inj h
         subst h
         have:=Pz n t r (p++[b]) hr (by simpa using hg)
         simpa using this
theorem Zvk (l:List UInt8):l=Blk.firstL l++l.dropWhile fun c=>!Blk.eolB c:=(List.takeWhile_append_dropWhile).symm
theorem Ykk {c:UInt8} (h:Blk.eolB c=true):c.toNat < 128:=by
 have:∀ b:UInt8,Blk.eolB b=true→b.toNat < 128:=Zw (by decide +kernel)
 exact this c h
theorem Az {p:UInt8→Bool} : ∀ {l:List UInt8} {c:UInt8} {t:List UInt8},l.dropWhile p=c :: t→p c=false
 | [],_,_,h=>by cases h
 | d :: l,c,t,h=>by
   rw [List.dropWhile_cons] at h
   split at h
   · exact Az h
   · rename_i hd
     cases h;simpa using hd
theorem Zva:∀ (n:Nat) (l:List UInt8),l.length < n→Zi l=true→∀ x ∈ Blk.linesL l,Zi x=true:=by
 intro n
 induction n with
 | zero=>intro l h;omega
 | succ n ih =>
   intro l hn hg x hx
   rw [Blk.linesL_eq] at hx
   have hfr:=Zvk l
   have key:Zi (Blk.firstL l)=true∧∀ t,Blk.afterL l=some t→Zi t=true:=by
     cases hd:l.dropWhile fun c=>!Blk.eolB c with
     | nil =>
       rw [hd,List.append_nil] at hfr
       refine ⟨by rw [← hfr];exact hg,fun t ht=>?_⟩
       unfold Blk.afterL at ht
       rw [hd] at ht;cases ht
     | cons c r =>
       rw [hd] at hfr
       have hc:Blk.eolB c=true:=by have:=Az hd;simpa using this
       rw [hfr] at hg
       have hs:=Xw (Ykk hc) hg
       refine ⟨hs.1,fun t ht=>?_⟩
       unfold Blk.afterL at ht
       rw [hd] at ht
       simp only at ht
       split at ht
       · cases r with
         | nil=>cases ht;exact hs.2
         | cons d r =>
           simp only at ht
           split at ht
           · rename_i hd10
             cases ht
             have:=hs.2
             rw [hd10,Zd _ (by decide)] at this;exact this
           · cases ht;exact hs.2
       · cases ht;exact hs.2
   rcases List.mem_cons.1 hx with e|e
   · rw [e];exact key.1
   · cases ha:Blk.afterL l with
     | none=>rw [ha] at e;cases e
     | some t =>
       rw [ha] at e
       exact ih t (by have:=Blk.afterL_len ha;omega) (key.2 t ha) x e
theorem Yb3:∀ b:UInt8,Blk.blankB b=true→b.toNat < 128:=Zw (by decide +kernel)
theorem Zvl {x:List UInt8} {n:Nat} (h:∀ c ∈ x.take n,Blk.blankB c=true) (hg:Zi x=true):Zi (x.drop n)=true:=by
 have:=Vd (x.drop n) (fun c hc=>Yb3 c (h c hc))
 rw [List.take_append_drop] at this
 rw [← this];exact hg
theorem Yk7 (v:Int) (x:List UInt8) (hv:0≤v):Blk.stepI v x≤v:=by
 unfold Blk.stepI;split<;>omega
theorem Zz9 (v:Int) (x:List UInt8) (hv:0≤v):0≤Blk.stepI v x:=by
 unfold Blk.stepI;split<;>omega
theorem Yau:∀ (ls:List (List UInt8)) (v:Int),0≤v→ls.foldl Blk.stepI v≤v∧0≤ls.foldl Blk.stepI v
 | [],v,h=>⟨Int.le_refl _,h⟩
 | x :: ls,v,h=>by
   rw [List.foldl_cons]
   have h1:=Yau ls _ (Zz9 v x h)
   exact ⟨Int.le_trans h1.1 (Yk7 v x h),h1.2⟩
theorem Tj:∀ (ls:List (List UInt8)) (v:Int) (x:List UInt8),x ∈ ls→Blk.inkB x=true→ls.foldl Blk.stepI v≤(Blk.leadN x:Int)
 | [],_,_,h,_=>by cases h
 | y :: ls,v,x,h,hi=>by
   rw [List.foldl_cons]
   rcases List.mem_cons.1 h with e|e
   · subst e
     have hs:Blk.stepI v x≤(Blk.leadN x:Int)∧0≤Blk.stepI v x:=by
      unfold Blk.stepI
      by_cases hc:v < 0∨(Blk.leadN x:Int) < v
      · rw [if_pos ⟨hi,hc⟩];omega
      · rw [if_neg (fun e=>hc e.2)];omega
     exact Int.le_trans (Yau ls _ hs.2).1 hs.1
   · exact Tj ls _ x e hi
theorem Ta:∀ (x:List UInt8) (n:Nat),n≤Blk.leadN x→∀ c ∈ x.take n,Blk.blankB c=true
 | [],_,_,c,hc=>by simp at hc
 | b :: t,0,_,c,hc=>by simp at hc
 | b :: t,n+1,h,c,hc=>by
   unfold Blk.leadN at h
   rw [List.takeWhile_cons] at h
   split at h
   · rename_i hb
     rw [List.take_succ_cons] at hc
     rcases List.mem_cons.1 hc with e|e
     · rw [e];exact hb
     · exact Ta t n (by unfold Blk.leadN;simpa using h) c e
   · simp at h
theorem Yn8 {x:List UInt8} (h:Blk.inkB x=false):∀ c ∈ x,Blk.blankB c=true:=by
 intro c hc
 unfold Blk.inkB at h
 rw [List.any_eq_false] at h
 have:=h c hc
 simpa using this
theorem Sz:∀ ls:List (List UInt8),(∀ x ∈ ls,Zi x=true)→Zi (Blk.joinTen ls)=true
 | [],_=>rfl
 | [x],h=>h x (by simp)
 | x :: y :: t,h=>by
   show Zi (x++10 :: Blk.joinTen (y :: t))=true
   rw [L5 (h x (by simp)),Zd _ (by decide)]
   exact Sz (y :: t) fun z hz=>h z (by simp [hz])
theorem Zxd {raw:List UInt8} (hg:Zi raw=true):Zi (Blk.valueL raw)=true:=by
 have hl:=Zva _ raw (Nat.lt_succ_self _) hg
 refine Sz _ fun x hx=>?_
 have hx:x ∈ Blk.cutL (max (Blk.indentL (Blk.linesL raw)) 0).toNat (Blk.linesL raw):=(Blk.trim_infix _).subset hx
 cases hls:Blk.linesL raw with
 | nil=>rw [hls] at hx;cases hx
 | cons y t =>
   rw [hls] at hx hl
   rcases List.mem_cons.1 hx with e|e
   · rw [e];exact hl y (by simp)
   · obtain ⟨z,hz,rfl⟩:=List.mem_map.1 e
     refine Zvl ?_ (hl z (by simp [hz]))
     cases hi:Blk.inkB z with
     | false=>exact fun c hc=>Yn8 hi c (List.mem_of_mem_take hc)
     | true =>
       refine Ta z _ ?_
       have:Blk.indentL (y :: t)≤(Blk.leadN z:Int):=Tj t (-1) z hz hi
       omega
theorem Ce {l:List UInt8} {q:List UInt8 × Nat} (h:Xq l=some q):(∃ z r,l=34 :: 34 :: 34 :: z∧P8 z=some r∧q=(Blk.valueL r.1,3+r.2))∨(∃ t r,l=34 :: t∧J5 t=some r∧q=(r.1,1+r.2)):=by
 cases l with
 | nil=>cases h
 | cons b t =>
   have e:Xq (b :: t)=if pre [34,34,34] (b :: t) then (P8 ((b :: t).drop 3)).map fun q=>(Blk.valueL q.1,3+q.2) else if b == 34 then (J5 t).map fun q=>(q.1,1+q.2) else none:=rfl
   rw [e] at h
   by_cases hb:pre [34,34,34] (b :: t)=true
   · rw [if_pos hb] at h
     unfold pre at hb
     rw [List.isPrefixOf_iff_prefix] at hb
     obtain ⟨z,hz⟩:=hb
     have hz:b :: t=34 :: 34 :: 34 :: z:=hz.symm
     rw [hz] at h
     cases hr:P8 z with
     | none=>simp only [List.drop_succ_cons,List.drop_zero,hr] at h;cases h
     | some r =>
       simp only [List.drop_succ_cons,List.drop_zero,hr] at h
       exact .inl ⟨z,r,hz,hr,(Option.some.inj h).symm⟩
   · rw [if_neg hb] at h
     by_cases hc:(b == 34)=true
     · rw [if_pos hc] at h
       have hc:b=34:=by simpa using hc
       subst hc
       cases hr:J5 t with
       | none=>rw [hr] at h;cases h
       | some r =>
         rw [hr] at h
         exact .inr ⟨t,r,rfl,hr,(Option.some.inj h).symm⟩
     · rw [if_neg hc] at h;cases h
theorem Zyi {l:List UInt8} {q:List UInt8 × Nat} (h:Xq l=some q) (hg:Zi l=true):Zi q.1=true:=by
 rcases Ce h with ⟨z,r,rfl,hr,rfl⟩|⟨t,r,rfl,hr,rfl⟩
 · rw [Zd _ (by decide),Zd _ (by decide),Zd _ (by decide)] at hg
   exact Zxd (Pz _ z r [] hr hg)
 · rw [Zd _ (by decide)] at hg
   exact Mb _ t r [] hr hg
theorem Rc : ∀ (n:Nat) (l:List UInt8) (q:List UInt8 × Nat),Ij n l=some q→q.1.length≤q.2
 | 0,_,_,h=>by cases h
 | _+1,[],_,h=>by cases h
 | n + 1,b :: t,q,h=>by
   rw [Ij] at h
   split at h
   · cases h;simp
   · split at h
     · cases h
     · split at h
       · cases he:Ot (b :: t) with
         | none=>rw [he] at h;cases h
         | some e =>
           rw [he] at h
           simp only at h
           have h1:=Tk he
           cases hr:Ij n ((b :: t).drop e.2) with
           | none=>rw [hr] at h;cases h
           | some r =>
             rw [hr] at h
             have h:=Option.some.inj h
             subst h
             have:=Rc n _ r hr
             simp;omega
       · cases hr:Ij n t with
         | none=>rw [hr] at h;cases h
         | some r =>
           rw [hr] at h
           have h:=Option.some.inj h
           subst h
           have:=Rc n _ r hr
           simp;omega
theorem Yby {l:List UInt8} {q:List UInt8 × Nat} (h:Xq l=some q):q.1.length≤l.length:=by
 have hle:=(W6 h).2
 rcases Ce h with ⟨z,r,rfl,hr,rfl⟩|⟨t,r,rfl,hr,rfl⟩
 · have h1:=Ycc _ _ r hr
   have h2:=Blk.value_len r.1
   simp only at hle ⊢
   omega
 · have h1:=Rc _ _ r hr
   simp only at hle ⊢
   omega
theorem C2 : ∀ (n:Nat) (l:List UInt8) (q:List UInt8 × Nat) (p:List UInt8),Ij n l=some q→Zi (p++l)=true→Zi (l.drop q.2)=true
 | 0,_,_,_,h,_=>by cases h
 | _+1,[],_,_,h,_=>by cases h
 | n + 1,b :: t,q,p,h,hg=>by
   rw [Ij] at h
   split at h
   · rename_i hb
     have hb:b=34:=by simpa using hb
     subst hb
     cases h
     exact (Xw (by decide) hg).2
   · split at h
     · cases h
     · split at h
       · rename_i hb
         have hb:b=92:=by simpa using hb
         subst hb
         have hs:=Xw (by decide) hg
         cases he:Ot (92 :: t) with
         | none=>rw [he] at h;cases h
         | some e =>
           rw [he] at h
           simp only at h
           obtain ⟨_,e2⟩:=Zjn he ⟨t,rfl⟩ (by rw [Zd _ (by decide)];exact hs.2)
           cases hr:Ij n ((92 :: t).drop e.2) with
           | none=>rw [hr] at h;cases h
           | some r =>
             rw [hr] at h
             have h:=Option.some.inj h
             subst h
             have:=C2 n _ r [] hr e2
             rwa [List.drop_drop] at this
       · cases hr:Ij n t with
         | none=>rw [hr] at h;cases h
         | some r =>
           rw [hr] at h
           have h:=Option.some.inj h
           subst h
           have:=C2 n t r (p++[b]) hr (by simpa using hg)
           show Zi ((b :: t).drop (1+r.2))=true
           rw [show 1+r.2=r.2+1 by omega,List.drop_succ_cons];exact this
theorem Oc:∀ (n:Nat) (l:List UInt8) (q:List UInt8 × Nat) (p:List UInt8),Rh n l=some q→Zi (p++l)=true→Zi (l.drop q.2)=true
 | 0,_,_,_,h,_=>by cases h
 | _+1,[],_,_,h,_=>by cases h
 | n + 1,b :: t,q,p,h,hg=>by
   rw [Rh] at h
   split at h
   · rename_i hb
     cases h
     unfold pre at hb
     rw [List.isPrefixOf_iff_prefix] at hb
     obtain ⟨z,hz⟩:=hb
     have hz:b :: t=34 :: 34 :: 34 :: z:=hz.symm
     rw [hz] at hg ⊢
     have hs:=(Xw (b:=34) (by decide) hg).2
     rw [Zd _ (by decide),Zd _ (by decide)] at hs
     exact hs
   · split at h
     · rename_i hb
       unfold pre at hb
       rw [List.isPrefixOf_iff_prefix] at hb
       obtain ⟨z,hz⟩:=hb
       have hz:b :: t=92 :: 34 :: 34 :: 34 :: z:=hz.symm
       rw [hz] at hg h ⊢
       have hs:=Xw (b:=92) (by decide) hg
       rw [Zd _ (by decide),Zd _ (by decide),Zd _ (by decide)] at hs
       cases hr:Rh n z with
       | none=>simp only [List.drop_succ_cons,List.drop_zero,hr] at h;cases h
       | some r =>
         simp only [List.drop_succ_cons,List.drop_zero,hr] at h
         have h:=Option.some.inj h
         subst h
         have:=Oc n z r [] hr hs.2
         show Zi ((92 :: 34 :: 34 :: 34 :: z).drop (4+r.2))=true
         rw [show 4+r.2=r.2+4 by omega];exact this
     · cases hr:Rh n t with
       | none=>rw [hr] at h;cases h
       | some r =>
         rw [hr] at h
         have h:=Option.some.inj h
         subst h
         have:=Oc n t r (p++[b]) hr (by simpa using hg)
         show Zi ((b :: t).drop (1+r.2))=true
         rw [show 1+r.2=r.2+1 by omega,List.drop_succ_cons];exact this
theorem Se {l:List UInt8} {q:List UInt8 × Nat} (h:Xq l=some q) (hg:Zi l=true):Zi (l.drop q.2)=true:=by
 rcases Ce h with ⟨z,r,rfl,hr,rfl⟩|⟨t,r,rfl,hr,rfl⟩
 · rw [Zd _ (by decide),Zd _ (by decide),Zd _ (by decide)] at hg
   have:=Oc _ z r [] hr hg
   show Zi ((34 :: 34 :: 34 :: z).drop (3+r.2))=true
   rw [show 3+r.2=r.2+3 by omega];exact this
 · rw [Zd _ (by decide)] at hg
   have:=C2 _ t r [] hr hg
   show Zi ((34 :: t).drop (1+r.2))=true
   rw [show 1+r.2=r.2+1 by omega];exact this
theorem Ygi {l:List UInt8} {t:(Int × List UInt8) × Nat} (h:Lb l=some t) (hg:Zi l=true):Oo t.1=true∧t.1.2.length≤l.length∧Zi (l.drop t.2)=true:=by
 unfold Lb at h
 split at h
 · rename_i hm
   have h:=Option.some.inj h
   subst h
   cases l with
   | nil=>exact absurd rfl hm
   | cons b r =>
     simp only [J4] at hm ⊢
     split at hm
     · rename_i hb
       rw [if_pos hb]
       unfold pre at hb
       rw [List.isPrefixOf_iff_prefix] at hb
       obtain ⟨z,hz⟩:=hb
       have hz:b :: r=46 :: 46 :: 46 :: z:=hz.symm
       rw [hz] at hg ⊢
       rw [Zd _ (by decide),Zd _ (by decide),Zd _ (by decide)] at hg
       exact ⟨by simp [Oo,J4,pre,List.isPrefixOf],by simp,hg⟩
     · rename_i hb
       rw [if_neg hb] at ⊢
       split at hm
       · rename_i hi
         rw [if_pos hi]
         have ha:b.toNat < 128:=by
           have:∀ b:UInt8,Vc b=true→b.toNat < 128:=Zw (by decide +kernel)
           exact this b hi
         rw [Zd _ ha] at hg
         refine ⟨?_,by simp,hg⟩
         have hp:pre [46,46,46] [b]=false:=by simp [pre,List.isPrefixOf]
         simp [Oo,J4,hp,hi]
       · exact absurd rfl hm
 · split at h
   · rename_i hw
     have h:=Option.some.inj h
     subst h
     have hn:=T6 hw
     refine ⟨hn,by simp only [List.length_take];omega,?_⟩
     have:=Vd (l.drop (Ji l)) (a:=l.take (Ji l)) (fun x hx=>by
       have hx:=List.all_eq_true.1 (Zx8 hn) x hx
       unfold Zzy at hx
       rw [Bool.and_eq_true] at hx
       simpa using hx.2)
     rw [List.take_append_drop] at this
     rw [← this];exact hg
   · split at h
     · rename_i hnu
       have h:=Option.some.inj h
       subst h
       obtain ⟨h1,h2⟩:=Zqf hnu
       have hk:Up (l.take (nbL l).1) ≠ 0:=by rw [h1];omega
       refine ⟨?_,by simp only [List.length_take];omega,?_⟩
       · have e1:(nbL l).2 ≠ 1:=by omega
         have e2:(nbL l).2 ≠ 2:=by omega
         simp only [Oo,e1,e2,if_false,h2,if_true,h1,decide_true]
       · have hs:=(Zzx hk).2.1
         have:=L5 (Gq hs) (l.drop (nbL l).1)
         rw [List.take_append_drop] at this
         rw [← this];exact hg
     · cases hq:Xq l with
       | none=>rw [hq] at h;cases h
       | some q =>
         rw [hq] at h
         have h:=Option.some.inj h
         subst h
         refine ⟨?_,Yby hq,?_⟩
         · show Oo (5,q.1)=true
           exact Zyi hq hg
         · exact Se hq hg
theorem Yfj {l:List UInt8} (h:V5 l ≠ 0) (hg:Zi l=true):Zi (l.drop (V5 l))=true:=by
 cases l with
 | nil=>exact hg
 | cons b t =>
   by_cases h1:Lg b=true
   · have ha:b.toNat < 128:=by
       have:∀ b:UInt8,Lg b=true→b.toNat < 128:=Zw (by decide +kernel)
       exact this b h1
     rw [show V5 (b :: t)=1 by simp [V5,h1]]
     rw [Zd _ ha] at hg;exact hg
   · by_cases h2:(b == 35)=true
     · have hb:b=35:=by simpa using h2
       subst hb
       rw [show V5 (35 :: t)=1+(t.takeWhile V7).length by simp [V5,Lg]]
       rw [Zd _ (by decide)] at hg
       rw [show 1+(t.takeWhile V7).length=(t.takeWhile V7).length+1 by omega,List.drop_succ_cons]
       have e:t=t.takeWhile V7++t.dropWhile V7:=(List.takeWhile_append_dropWhile).symm
       have e2:t.drop (t.takeWhile V7).length=t.dropWhile V7:=by
         have:∀ a b:List UInt8,(a++b).drop a.length=b:=fun a b=>List.drop_left
         have h7:=this (t.takeWhile V7) (t.dropWhile V7)
         rwa [← e] at h7
       rw [e2]
       cases hd:t.dropWhile V7 with
       | nil=>rfl
       | cons c r =>
         have hc:=Az hd
         have ha:c.toNat < 128:=by
           have:∀ b:UInt8,V7 b=false→b.toNat < 128:=Zw (by decide +kernel)
           exact this c hc
         rw [e,hd] at hg
         rw [Zd _ ha];exact (Xw ha hg).2
     · have h3:pre [239,187,191] (b :: t)=true:=by
         by_cases h3:pre [239,187,191] (b :: t)=true
         · exact h3
         · exact absurd (by simp [V5,h1,h2,h3]) h
       rw [show V5 (b :: t)=3 by simp [V5,h1,h2,h3]]
       unfold pre at h3
       rw [List.isPrefixOf_iff_prefix] at h3
       obtain ⟨z,hz⟩:=h3
       rw [← hz] at hg ⊢
       have e:Zi ([239,187,191]++z)=Zi z:=L5 (by decide +kernel) z
       rw [e] at hg;exact hg
theorem Ob : ∀ (n:Nat) (l:List UInt8) ts,Iz n l=some ts→Zi l=true→ts.all Oo=true∧∀ t ∈ ts,t.2.length≤l.length
 | 0,_,_,h,_=>by cases h
 | n + 1,l,ts,h,hg=>by
   rw [Iz] at h
   split at h
   · rename_i h0
     obtain ⟨h1,h2⟩:=Ob n _ ts h (Yfj h0 hg)
     exact ⟨h1,fun t ht=>Nat.le_trans (h2 t ht) (by rw [List.length_drop];omega)⟩
   · split at h
     · cases h
       exact ⟨rfl,fun t ht=>by cases ht⟩
     · cases hk:Lb l with
       | none=>rw [hk] at h;cases h
       | some p =>
         rw [hk] at h
         obtain ⟨g1,g2,g3⟩:=Ygi hk hg
         cases hr:Iz n (l.drop p.2) with
         | none=>simp only [hr] at h;cases h
         | some us =>
           simp only [hr] at h
           have h:=Option.some.inj h
           subst h
           obtain ⟨h1,h2⟩:=Ob n _ us hr g3
           refine ⟨by rw [List.all_cons,g1,h1];rfl,fun t ht=>?_⟩
           rcases List.mem_cons.1 ht with e|e
           · rw [e];exact g2
           · exact Nat.le_trans (h2 t e) (by rw [List.length_drop];omega)
theorem Zzw (l:List UInt8):(Zq l).1.all Oo=true∧∀ t ∈ (Zq l).1,t.2.length≤l.length:=by
 unfold Zq
 split
 · exact ⟨rfl,fun t ht=>by cases ht⟩
 · split
   · exact ⟨rfl,fun t ht=>by cases ht⟩
   · rename_i h0 h1
     have hs:Yz l=true:=by cases h:Yz l with
      | true=>rfl
      | false=>exact absurd h h1
     cases h:Uc l with
     | none=>exact ⟨rfl,fun t ht=>by cases ht⟩
     | some ts=>exact Ob _ l ts h (Gq hs)
theorem Cd {s:ByteArray} (hs:s.size≤9000):Xb (Lj (Zq s.data.toList).1):=by
 obtain ⟨h1,h2⟩:=Zzw s.data.toList
 have h3:s.data.toList.length=s.size:=Array.length_toList
 refine ⟨fun t ht=>?_,Zqq hs⟩
 unfold Lj at ht
 obtain ⟨u,hu,rfl⟩:=List.mem_map.1 ht
 have hl:=h2 u hu
 have hr:=List.all_eq_true.1 h1 u hu
 refine ⟨by show (⟨u.2.toArray⟩:ByteArray).size≤9000;rw [Lib.size_eq];show u.2.length≤9000;omega,fun hk=>?_⟩
 have hk:u.1=3:=hk
 show Up u.2.toArray.toList=3
 rw [List.toList_toArray]
 unfold Oo at hr
 rw [hk] at hr
 simpa using hr
open Go.RowKit
theorem Qo {w:World} {P:Nat→Prop} {a:Vs} {v:Value} (h:Gt J1 w P a v):∃ (A0:Option Addr) (n0 k0:Nat) (A1:Option Addr) (n1 k1:Nat),v=.agg #[.slice A0 n0 k0,.slice A1 n1 k1]∧TS w P (J1 a) [.slice A0 n0 k0,.slice A1 n1 k1]:=by
 obtain ⟨cs,rfl,h⟩:=h
 have h0:=h
 unfold J1 at h0
 simp only [TS,TP] at h0
 obtain ⟨c0,_,rfl,⟨A0,k0,rfl,_,_⟩,c1,_,rfl,⟨A1,k1,rfl,_,_⟩,rfl⟩:=h0
 exact ⟨_,_,_,_,_,_,rfl,h⟩
theorem Uv {w w2:World} {cs:Array Value} {t:TypeId} {u v:Value} {o:Obj} (h4:w2.heap[w.heap.size]? = some (.cells cs t (0,0))) (h5:w2.heap[w.heap.size+1]? = some (.cells #[u] 27 (0,0))) :
   ((w2.setCell ⟨w.heap.size+1,0,none⟩ v).alloc o).heap[w.heap.size]? = some (.cells cs t (0,0))∧((w2.setCell ⟨w.heap.size+1,0,none⟩ v).alloc o).heap[w.heap.size+1]? = some (.cells #[v] 27 (0,0))∧Z0 (w.heap.size+1) w2 ((w2.setCell ⟨w.heap.size+1,0,none⟩ v).alloc o)∧w.heap.size+2≤w2.heap.size∧((w2.setCell ⟨w.heap.size+1,0,none⟩ v).alloc o).heap.size=w2.heap.size+1:=by
 have l5:=(Array.getElem?_eq_some_iff.1 h5).1
 have hs:(w2.setCell ⟨w.heap.size+1,0,none⟩ v).heap.size=w2.heap.size:=by simp [World.setCell]
 refine ⟨?_,?_,Z0.set.trans (Z0.of_below (blw _ _)),by omega,by simp [hs]⟩
 · rw [Below.heap_alloc _ _ _ (by rw [hs];omega),Below.heap_setCell _ _ _ _ (Nat.ne_of_lt (Nat.lt_succ_self _))];exact h4
 · rw [Below.heap_alloc _ _ _ (by rw [hs];omega)];exact heap_setCell_same _ _ 0 _ _ _ h5
theorem Ip {w w4:World} {cs:Array Value} {t:TypeId} {v:Value} {o:Obj} (h4:w4.heap[w.heap.size]? = some (.cells cs t (0,0))) (h5:w4.heap[w.heap.size+1]? = some (.cells #[v] 27 (0,0))) :
  (w4.alloc o).heap[w.heap.size]? = some (.cells cs t (0,0))∧(w4.alloc o).heap[w.heap.size+1]? = some (.cells #[v] 27 (0,0))∧(w4.alloc o).heap[w4.heap.size]? = some o:=
 ⟨(Below.heap_alloc _ _ _ (Array.getElem?_eq_some_iff.1 h4).1).trans h4,(Below.heap_alloc _ _ _ (Array.getElem?_eq_some_iff.1 h5).1).trans h5,heap_alloc_last _ _⟩
theorem Nu {w wx w4:World} {s:TrS} {cs xs:List Value} {o:Obj} {v:Value} (h:TS w4 (Zs wx w4) s cs) (hlt:w.heap.size+2≤wx.heap.size):TS ((setAll (w4.alloc o) w.heap.size 0 xs).setCell ⟨w.heap.size+1,0,none⟩ v) (Zs w ((setAll (w4.alloc o) w.heap.size 0 xs).setCell ⟨w.heap.size+1,0,none⟩ v)) s cs:=by
 have hs:((setAll (w4.alloc o) w.heap.size 0 xs).setCell ⟨w.heap.size+1,0,none⟩ v).heap.size=w4.heap.size+1:=by
  have:((setAll (w4.alloc o) w.heap.size 0 xs).setCell ⟨w.heap.size+1,0,none⟩ v).heap.size=(setAll (w4.alloc o) w.heap.size 0 xs).heap.size:=by simp [World.setCell]
  rw [this,V8];simp
 refine TS.keep (fun k hk=>?_) _ _ h
 have h1:=hk.1
 have h2:=hk.2
 refine ⟨⟨by omega,by rw [hs];omega⟩,?_⟩
 rw [Below.heap_setCell _ _ _ _ (show k ≠ w.heap.size+1 by omega),Yb (show k ≠ w.heap.size by omega),Below.heap_alloc _ _ _ h2]
def Um {α:Type} (R:List Tok→Except Int (α × List Tok)) (l:List UInt8):Except Int α:=
 if (Zq l).2 ≠ 0 then .error (Zq l).2 else
  match R (Lj (Zq l).1) with
  | .error x=>.error x
  | .ok (a,r)=>if r=[] then .ok a else .error 2
theorem Pv {fn:Func} {R:Ending→World→Prop} {tmps:Array Value} {W:World} {q0 q1 u:Value} {b4 b5:Nat} (hf:fn.results=#[.cell 4 26,.cell 5 27]) (h4:W.heap[b4]? = some (.cells #[q0,q1] 26 (0,0))) (h5:W.heap[b5]? = some (.cells #[u] 27 (0,0)))
  (t4:tmps.getD 4 undef=.pointer (some ⟨b4,0,none⟩)) (t5:tmps.getD 5 undef=.pointer (some ⟨b5,0,none⟩)) (hR:R (.returned (.tuple #[.agg #[q0,q1],u])) W):Leaves Tryz.prog fn tmps R [] .returning W:=by
 obtain ⟨k0q,k1q,kz⟩:=ptc h4
 have c5:=(Ys h5).1
 have t4':tmps[4]?.getD undef=.pointer (some ⟨b4,0,none⟩):=by rw [← t4];simp
 have t5':tmps[5]?.getD undef=.pointer (some ⟨b5,0,none⟩):=by rw [← t5];simp
 clear kz
 simp [Leaves,results,hf,t4',t5',asAddr,go_sem,k0q,k1q,c5]
 exact hR
theorem Zzl (p:Addr) (w:World) :
  CallsD Tryz.prog 93 #[.pointer (some p)] .returning w fun e u' w'=>e=.returned (.tuple #[])∧u'=.returning∧w'=w:=by
 refine callsD_of_wpS Tryz.func93 rfl fun c₀ cs hu=>?_
 apply wpS_seq
 apply wpS_region
 simp [wpOpsS,go_sem,recoverD,hu,Tryz.ntmps93,Exit.thenS]
 refine wpS_of_wp ?_
 change Code.wp _ _ _ ⟨#[.pointer (some p),undef,undef,undef,.nilIface,undef,undef,undef,undef,undef,undef,undef],[]⟩ _
 go_wp2_with fail
 cases c₀
 simp_all [bodyPostS,results,Tryz.results93]
theorem Le (p:Addr) (x y:Int) (older:List PanicEntry) (w:World) (hc:w.cell? p=some (.int .i64 x)) (hz:w.frozen? p=false) (hp:p.block < w.heap.size) :
  CallsD Tryz.prog 93 #[.pointer (some p)] (.panicking ({ v:=.iface 145 (.agg #[.int .i64 y]),recovered:=false } :: older)) w fun e u' w'=>e=.returned (.tuple #[])∧u'=.panicking ({ v:=.iface 145 (.agg #[.int .i64 y]),recovered:=true } :: older)∧w'=(w.alloc (.cells #[.int .i64 y] 145)).setCell p (.int .i64 y):=by
 have hta:=Gv
 have hz2:(w.alloc (.cells #[.int .i64 y] 145)).frozen? p=false:=(World.frozen?_of_block (Below.heap_alloc _ _ _ hp)).trans hz
 have hc2:(w.alloc (.cells #[.int .i64 y] 145)).cell? p=some (.int .i64 x):=(World.cell?_of_block (Below.heap_alloc _ _ _ hp)).trans hc
 refine callsD_of_wpS Tryz.func93 rfl fun c₀ cs hu=>?_
 apply wpS_seq
 apply wpS_region
 simp [wpOpsS,go_sem,recoverD,hu,Tryz.ntmps93,Exit.thenS]
 refine wpS_of_wp ?_
 change Code.wp _ _ _ ⟨#[.pointer (some p),undef,undef,undef,.iface 145 (.agg #[.int .i64 y]),undef,undef,undef,undef,undef,undef,undef],[]⟩ _
 go_wp2_with fail
 cases c₀
 simp_all [bodyPostS,results,Tryz.results93]
theorem Yci (s:ByteArray) (w:World) (hs:s.size≤9000) (h3:Jw w) (h5:Uj w) (ts:List (Int × List UInt8)) (hl:ts.length≤200000) (R:Except Int (Vs × List Tok))
   (HT:∀ g wx,Below w.heap.size w wx→w.heap.size≤g→Rd wx g (Lj ts) 0→KRd g wx→Calls Tryz.prog 42 #[.pointer (some ⟨g,0,none⟩)] wx (L8 g 0 wx (Gt J1) R))
   (hr:Zq s.data.toList=(ts,0)) (x:Int) (hR:R=.error x):Calls Tryz.prog 41 #[.string s,.func (.func 42) #[] #[]] w fun e w'=>e=.returned (.tuple #[.agg #[.slice none 0 0,.slice none 0 0],.int .i64 x])∧Below w.heap.size w w':=by
 have hmf:∀ (fn:Fn) (first cap:Array Value) (w:World),(Instr.makeFunc fn first cap).run Tryz.prog w=.ok (.func fn first cap) w:=fun _ _ _ _=>rfl
 have HR:=fun wx (hb:Below w.heap.size w wx)=>Hd (by have:=Io s wx hs (h3.below hb);rw [hr] at this;exact this)
 have HTT:=Hd HT
 have B0:=Hd (Xf w (.cells #[.slice none 0 0,.slice none 0 0] 26) (.cells #[.int .i64 0] 27))
 obtain ⟨y0,y1⟩:=Jz w (.cells #[.slice none 0 0,.slice none 0 0] 26) (.cells #[.int .i64 0] 27)
 have Y:=Hd (And.intro y0 y1)
 have hsz:Hid (((w.alloc (.cells #[.slice none 0 0,.slice none 0 0] 26)).alloc (.cells #[.int .i64 0] 27)).heap.size=w.heap.size+2):=Hd (by simp)
 have H5:=Hd h5
 clear hr HT y0 y1
 go_enter_defers Tryz.func41,Tryz.ntmps41
 go_wp2_with fail
 refine (HR _ B0.out).out.mono ?_
 rintro e w2 ⟨A,cap,rfl,hown,hb2⟩
 have z4:=(hb2.block w.heap.size (by have:=hsz.out;omega)).trans Y.out.1
 have z5:=(hb2.block (w.heap.size+1) (by have:=hsz.out;omega)).trans Y.out.2
 obtain ⟨k0q,k1q,kz⟩:=ptc z4
 have kf0:=kz 0
 have kf1:=kz 1
 clear kz
 obtain ⟨e0,e1⟩:=Ys z5
 have Z:=Hd (And.intro z4 z5)
 have B2:=Hd (B0.out.trans (hb2.mono (by have:=hsz.out;omega)))
 have OW:=Hd hown
 clear hb2 hown z4 z5
 go_wp2_with fail
 have R3:=Hd (En (w:=w) OW.out hl (Nat.le_of_eq hsz.out.symm) (v:=.int .i64 0))
 have D3:=Hd (Uv Z.out.1 Z.out.2 (v:=.int .i64 0) (o:=.cells #[.slice A ts.length cap,.int .i64 0] 147))
 have KR:=Hd (show KRd w2.heap.size _ from ⟨w,H5.out,by have:=D3.out.2.2.2.1;omega,Ye B2.out D3.out.2.2.1 (Z0.refl _ _) D3.out.2.2.2.1⟩)
 refine (HTT.out _ _ (Ye B2.out D3.out.2.2.1 (Z0.refl _ _) D3.out.2.2.2.1) (by have:=D3.out.2.2.2.1;omega) R3.out KR.out).mono ?_
 rw [hR]
 intro e w4 h
 obtain ⟨rfl,m4⟩:=Yr h
 have z4:=m4.keep D3.out.1 (by have:=D3.out.2.2.2.1;omega)
 have z5:=m4.keep D3.out.2.1 (by have:=D3.out.2.2.2.1;omega)
 clear e0 e1 k0q kf0 k1q kf1
 obtain ⟨e0,e1⟩:=Ys z5
 have hlt5:=(Array.getElem?_eq_some_iff.1 z5).1
 have B4:=Hd (Ye B2.out D3.out.2.2.1 m4 D3.out.2.2.2.1)
 have Z4:=Hd (And.intro z4 z5)
 refine leaves_cons (f:=93) (args:=#[.pointer (some ⟨w.heap.size+1,0,none⟩)]) (by simp) (by simp [go_sem]) ?_
 refine (Le ⟨w.heap.size+1,0,none⟩ 0 x [] _ e0 e1 hlt5).mono ?_
 rintro e u' w'' ⟨rfl,rfl,rfl⟩
 refine Pv rfl (b4:=w.heap.size) (b5:=w.heap.size+1) (u:=.int .i64 x) ?_ ?_ rfl rfl ⟨rfl,?_⟩
 · rw [Below.heap_setCell _ _ _ _ (Nat.ne_of_lt (Nat.lt_succ_self _)),Below.heap_alloc _ _ _ (by omega)];exact Z4.out.1
 · exact heap_setCell_same _ _ 0 _ _ _ ((Below.heap_alloc _ _ _ hlt5).trans Z4.out.2)
 · exact (B4.out.alloc B4.out.size _).setCell (Nat.le_succ _) _
theorem Zje (s:ByteArray) (w:World) (hs:s.size≤9000) (h3:Jw w) (h5:Uj w) (ts:List (Int × List UInt8)) (hl:ts.length≤200000) (R:Except Int (Vs × List Tok))
   (HT:∀ g wx,Below w.heap.size w wx→w.heap.size≤g→Rd wx g (Lj ts) 0→KRd g wx→Calls Tryz.prog 42 #[.pointer (some ⟨g,0,none⟩)] wx (L8 g 0 wx (Gt J1) R))
   (hr:Zq s.data.toList=(ts,0)) (a:Vs) (t:Tok) (ts2:List Tok) (hR:R=.ok (a,t :: ts2)):Calls Tryz.prog 41 #[.string s,.func (.func 42) #[] #[]] w fun e w'=>e=.returned (.tuple #[.agg #[.slice none 0 0,.slice none 0 0],.int .i64 2])∧Below w.heap.size w w':=by
 have hmf:∀ (fn:Fn) (first cap:Array Value) (w:World),(Instr.makeFunc fn first cap).run Tryz.prog w=.ok (.func fn first cap) w:=fun _ _ _ _=>rfl
 have HR:=fun wx (hb:Below w.heap.size w wx)=>Hd (by have:=Io s wx hs (h3.below hb);rw [hr] at this;exact this)
 have HTT:=Hd HT
 have B0:=Hd (Xf w (.cells #[.slice none 0 0,.slice none 0 0] 26) (.cells #[.int .i64 0] 27))
 obtain ⟨y0,y1⟩:=Jz w (.cells #[.slice none 0 0,.slice none 0 0] 26) (.cells #[.int .i64 0] 27)
 have Y:=Hd (And.intro y0 y1)
 have hsz:Hid (((w.alloc (.cells #[.slice none 0 0,.slice none 0 0] 26)).alloc (.cells #[.int .i64 0] 27)).heap.size=w.heap.size+2):=Hd (by simp)
 have H5:=Hd h5
 clear hr HT y0 y1
 go_enter_defers Tryz.func41,Tryz.ntmps41
 go_wp2_with fail
 refine (HR _ B0.out).out.mono ?_
 rintro e w2 ⟨A,cap,rfl,hown,hb2⟩
 have z4:=(hb2.block w.heap.size (by have:=hsz.out;omega)).trans Y.out.1
 have z5:=(hb2.block (w.heap.size+1) (by have:=hsz.out;omega)).trans Y.out.2
 obtain ⟨k0q,k1q,kz⟩:=ptc z4
 have kf0:=kz 0
 have kf1:=kz 1
 clear kz
 obtain ⟨e0,e1⟩:=Ys z5
 have Z:=Hd (And.intro z4 z5)
 have B2:=Hd (B0.out.trans (hb2.mono (by have:=hsz.out;omega)))
 have OW:=Hd hown
 clear hb2 hown z4 z5
 go_wp2_with fail
 have R3:=Hd (En (w:=w) OW.out hl (Nat.le_of_eq hsz.out.symm) (v:=.int .i64 0))
 have D3:=Hd (Uv Z.out.1 Z.out.2 (v:=.int .i64 0) (o:=.cells #[.slice A ts.length cap,.int .i64 0] 147))
 have KR:=Hd (show KRd w2.heap.size _ from ⟨w,H5.out,by have:=D3.out.2.2.2.1;omega,Ye B2.out D3.out.2.2.1 (Z0.refl _ _) D3.out.2.2.2.1⟩)
 refine (HTT.out _ _ (Ye B2.out D3.out.2.2.1 (Z0.refl _ _) D3.out.2.2.2.1) (by have:=D3.out.2.2.2.1;omega) R3.out KR.out).mono ?_
 rw [hR]
 intro e w4 h
 obtain ⟨⟨v,rfl,hly⟩,r4,m4⟩:=Jh h
 obtain ⟨A0,n0,k0,A1,n1,k1,rfl,_⟩:=Qo hly
 have z4:=m4.keep D3.out.1 (by have:=D3.out.2.2.2.1;omega)
 have z5:=m4.keep D3.out.2.1 (by have:=D3.out.2.2.2.1;omega)
 have B4:=Hd (Ye B2.out D3.out.2.2.1 m4 D3.out.2.2.2.1)
 have Z4:=Hd (And.intro z4 z5)
 have HE:=Hd (fun wx (hb:Below w4.heap.size w4 wx)=>Jb w2.heap.size (t :: ts2) 0 wx (r4.below hb))
 have hlt4:w.heap.size+1 < w4.heap.size:=(Array.getElem?_eq_some_iff.1 z5).1
 clear e0 e1 k0q kf0 k1q kf1 z4 z5 r4 m4 hly h
 go_wp2_with fail
 refine (HE.out _ (blw _ _)).mono ?_
 rintro e w5 ⟨rfl,rfl⟩
 have A6:=Hd (Ip Z4.out.1 Z4.out.2 (o:=.cells #[.slice A0 n0 k0,.slice A1 n1 k1] 26))
 obtain ⟨e0,e1⟩:=Ys A6.out.2.1
 have hlt5:w.heap.size+1 < (w4.alloc (.cells #[.slice A0 n0 k0,.slice A1 n1 k1] 26)).heap.size:=by simp;omega
 go_wp2_with fail
 refine leaves_cons (f:=93) (args:=#[.pointer (some ⟨w.heap.size+1,0,none⟩)]) (by simp) (by simp [go_sem]) ?_
 refine (Le ⟨w.heap.size+1,0,none⟩ 0 2 [] _ e0 e1 hlt5).mono ?_
 rintro e u' w'' ⟨rfl,rfl,rfl⟩
 refine Pv rfl (b4:=w.heap.size) (b5:=w.heap.size+1) (u:=.int .i64 2) ?_ ?_ rfl rfl ⟨rfl,?_⟩
 · rw [Below.heap_setCell _ _ _ _ (Nat.ne_of_lt (Nat.lt_succ_self _)),Below.heap_alloc _ _ _ (by omega)];exact A6.out.1
 · exact heap_setCell_same _ _ 0 _ _ _ ((Below.heap_alloc _ _ _ hlt5).trans A6.out.2.1)
 · exact ((B4.out.alloc B4.out.size _).alloc (by have:=B4.out.size;simp;omega) _).setCell (Nat.le_succ _) _
theorem Zvs (s:ByteArray) (w:World) (hs:s.size≤9000) (h3:Jw w) (h5:Uj w) (ts:List (Int × List UInt8)) (hl:ts.length≤200000) (R:Except Int (Vs × List Tok))
  (HT:∀ g wx,Below w.heap.size w wx→w.heap.size≤g→Rd wx g (Lj ts) 0→KRd g wx→Calls Tryz.prog 42 #[.pointer (some ⟨g,0,none⟩)] wx (L8 g 0 wx (Gt J1) R))
  (hr:Zq s.data.toList=(ts,0)) (a:Vs) (hR:R=.ok (a,[])):Calls Tryz.prog 41 #[.string s,.func (.func 42) #[] #[]] w fun e w'=>∃ cs:List Value,e=.returned (.tuple #[.agg cs.toArray,.int .i64 0])∧TS w' (Zs w w') (J1 a) cs∧Below w.heap.size w w':=by
 have hmf:∀ (fn:Fn) (first cap:Array Value) (w:World),(Instr.makeFunc fn first cap).run Tryz.prog w=.ok (.func fn first cap) w:=fun _ _ _ _=>rfl
 have HR:=fun wx (hb:Below w.heap.size w wx)=>Hd (by have:=Io s wx hs (h3.below hb);rw [hr] at this;exact this)
 have HTT:=Hd HT
 have B0:=Hd (Xf w (.cells #[.slice none 0 0,.slice none 0 0] 26) (.cells #[.int .i64 0] 27))
 obtain ⟨y0,y1⟩:=Jz w (.cells #[.slice none 0 0,.slice none 0 0] 26) (.cells #[.int .i64 0] 27)
 have Y:=Hd (And.intro y0 y1)
 have hsz:Hid (((w.alloc (.cells #[.slice none 0 0,.slice none 0 0] 26)).alloc (.cells #[.int .i64 0] 27)).heap.size=w.heap.size+2):=Hd (by simp)
 have H5:=Hd h5
 clear hr HT y0 y1
 go_enter_defers Tryz.func41,Tryz.ntmps41
 go_wp2_with fail
 refine (HR _ B0.out).out.mono ?_
 rintro e w2 ⟨A,cap,rfl,hown,hb2⟩
 have z4:=(hb2.block w.heap.size (by have:=hsz.out;omega)).trans Y.out.1
 have z5:=(hb2.block (w.heap.size+1) (by have:=hsz.out;omega)).trans Y.out.2
 obtain ⟨k0q,k1q,kz⟩:=ptc z4
 have kf0:=kz 0
 have kf1:=kz 1
 clear kz
 obtain ⟨e0,e1⟩:=Ys z5
 have Z:=Hd (And.intro z4 z5)
 have B2:=Hd (B0.out.trans (hb2.mono (by have:=hsz.out;omega)))
 have OW:=Hd hown
 clear hb2 hown z4 z5
 go_wp2_with fail
 have R3:=Hd (En (w:=w) OW.out hl (Nat.le_of_eq hsz.out.symm) (v:=.int .i64 0))
 have D3:=Hd (Uv Z.out.1 Z.out.2 (v:=.int .i64 0) (o:=.cells #[.slice A ts.length cap,.int .i64 0] 147))
 have KR:=Hd (show KRd w2.heap.size _ from ⟨w,H5.out,by have:=D3.out.2.2.2.1;omega,Ye B2.out D3.out.2.2.1 (Z0.refl _ _) D3.out.2.2.2.1⟩)
 refine (HTT.out _ _ (Ye B2.out D3.out.2.2.1 (Z0.refl _ _) D3.out.2.2.2.1) (by have:=D3.out.2.2.2.1;omega) R3.out KR.out).mono ?_
 rw [hR]
 intro e w4 h
 obtain ⟨⟨v,rfl,hly⟩,r4,m4⟩:=Jh h
 obtain ⟨A0,n0,k0,A1,n1,k1,rfl,hts⟩:=Qo hly
 have z4:=m4.keep D3.out.1 (by have:=D3.out.2.2.2.1;omega)
 have z5:=m4.keep D3.out.2.1 (by have:=D3.out.2.2.2.1;omega)
 have B4:=Hd (Ye B2.out D3.out.2.2.1 m4 D3.out.2.2.2.1)
 have Z4:=Hd (And.intro z4 z5)
 have TT:=Hd hts
 have HE:=Hd (fun wx (hb:Below w4.heap.size w4 wx)=>Jb w2.heap.size [] 0 wx (r4.below hb))
 have hlt4:w.heap.size+1 < w4.heap.size:=(Array.getElem?_eq_some_iff.1 z5).1
 clear e0 e1 k0q kf0 k1q kf1 z4 z5 r4 m4 hly hts h
 go_wp2_with fail
 refine (HE.out _ (blw _ _)).mono ?_
 rintro e w5 ⟨rfl,rfl⟩
 have A6:=Hd (Ip Z4.out.1 Z4.out.2 (o:=.cells #[.slice A0 n0 k0,.slice A1 n1 k1] 26))
 obtain ⟨k0q,k1q,kz⟩:=ptc A6.out.1
 have kf0:=kz 0
 have kf1:=kz 1
 clear kz
 obtain ⟨e0,e1⟩:=Ys A6.out.2.1
 obtain ⟨j0q,j1q,jz⟩:=ptc A6.out.2.2
 have jf0:=jz 0
 have jf1:=jz 1
 clear jz
 go_wp2_with fail
 refine leaves_cons (f:=93) (args:=#[.pointer (some ⟨w.heap.size+1,0,none⟩)]) (by simp) (by simp [go_sem]) ?_
 refine (Zzl ⟨w.heap.size+1,0,none⟩ _).mono ?_
 rintro e u' w'' ⟨rfl,rfl,rfl⟩
 have f1:=Y9 (b:=w.heap.size) (t:=26) (ys:=[.slice none 0 0,.slice none 0 0]) (xs:=[.slice A0 n0 k0,.slice A1 n1 k1]) rfl A6.out.1
 have f2:=(Yb (b:=w.heap.size) (k:=w.heap.size+1) (by omega) [.slice A0 n0 k0,.slice A1 n1 k1] 0 _).trans A6.out.2.1
 have f3:=Yq (Nat.le_refl _) [.slice A0 n0 k0,.slice A1 n1 k1] 0 _ (B4.out.alloc B4.out.size (.cells #[.slice A0 n0 k0,.slice A1 n1 k1] 26))
 refine Pv rfl (b4:=w.heap.size) (b5:=w.heap.size+1) (u:=.int .i64 0) ((Below.heap_setCell _ _ _ _ (Nat.ne_of_lt (Nat.lt_succ_self _))).trans f1) (heap_setCell_same _ _ 0 _ _ _ f2) rfl rfl ⟨_,rfl,Nu (w:=w) (xs:=[.slice A0 n0 k0,.slice A1 n1 k1]) (o:=.cells #[.slice A0 n0 k0,.slice A1 n1 k1] 26) (v:=.int .i64 0) TT.out (by have h8:=D3.out.2.2.2.1;have h9:=D3.out.2.2.2.2;omega),f3.setCell (Nat.le_succ _) _⟩
theorem Zxo (s:ByteArray) (w:World) (hs:s.size≤9000) (h3:Jw w) (ts:List (Int × List UInt8)) (x:Int) (hx:x ≠ 0) (hr:Zq s.data.toList=(ts,x)):Calls Tryz.prog 41 #[.string s,.func (.func 42) #[] #[]] w fun e w'=>e=.returned (.tuple #[.agg #[.slice none 0 0,.slice none 0 0],.int .i64 x])∧Below w.heap.size w w':=by
 have HR:=fun wx (hb:Below w.heap.size w wx)=>Hd (by have:=Io s wx hs (h3.below hb);rw [hr] at this;exact this)
 have B0:=Hd (Xf w (.cells #[.slice none 0 0,.slice none 0 0] 26) (.cells #[.int .i64 0] 27))
 obtain ⟨y0,y1⟩:=Jz w (.cells #[.slice none 0 0,.slice none 0 0] 26) (.cells #[.int .i64 0] 27)
 have Y:=Hd (And.intro y0 y1)
 have hsz:Hid (((w.alloc (.cells #[.slice none 0 0,.slice none 0 0] 26)).alloc (.cells #[.int .i64 0] 27)).heap.size=w.heap.size+2):=Hd (by simp)
 have hx':(x != 0)=true:=by simpa using hx
 clear hr y0 y1 hx
 go_enter_defers Tryz.func41,Tryz.ntmps41
 go_wp2_with fail
 refine (HR _ B0.out).out.mono ?_
 rintro e w2 ⟨A,cap,rfl,hown,hb2⟩
 have z4:=(hb2.block w.heap.size (by have:=hsz.out;omega)).trans Y.out.1
 have z5:=(hb2.block (w.heap.size+1) (by have:=hsz.out;omega)).trans Y.out.2
 obtain ⟨k0q,k1q,kz⟩:=ptc z4
 have kf0:=kz 0
 have kf1:=kz 1
 clear kz
 obtain ⟨e0,e1⟩:=Ys z5
 have Z:=Hd (And.intro z4 z5)
 have B2:=Hd (B0.out.trans (hb2.mono (by have:=hsz.out;omega)))
 clear hb2 hown z4 z5
 go_wp2_with fail
 have D:=Hd (show (w2.setCell ⟨w.heap.size+1,0,none⟩ (.int .i64 x)).heap[w.heap.size]? = some (.cells #[.slice none 0 0,.slice none 0 0] 26 (0,0))∧(w2.setCell ⟨w.heap.size+1,0,none⟩ (.int .i64 x)).heap[w.heap.size+1]? = some (.cells #[.int .i64 x] 27 (0,0)) from ⟨V9 Z.out.1 (by omega),heap_setCell_same _ _ 0 _ _ _ Z.out.2⟩)
 clear k0q kf0 k1q kf1 e0 e1
 have BD:=Hd (B2.out.setCell (p:=⟨w.heap.size+1,0,none⟩) (Nat.le_succ _) (.int .i64 x))
 obtain ⟨k0q,k1q,kz⟩:=ptc D.out.1
 have kf0:=kz 0
 have kf1:=kz 1
 clear kz
 obtain ⟨e0,e1⟩:=Ys D.out.2
 generalize (w2.setCell ⟨w.heap.size+1,0,none⟩ (.int .i64 x))=w3 at *
 go_region
 go_wp2_with fail
 simp only [bodyPostD]
 have f1:=Y9 (b:=w.heap.size) (t:=26) (ys:=[.slice none 0 0,.slice none 0 0]) (xs:=[.slice none 0 0,.slice none 0 0]) rfl D.out.1
 have f2:=(Yb (b:=w.heap.size) (k:=w.heap.size+1) (by omega) [.slice none 0 0,.slice none 0 0] 0 _).trans D.out.2
 have f3:=Yq (Nat.le_refl _) [.slice none 0 0,.slice none 0 0] 0 _ BD.out
 refine Pv rfl (b4:=w.heap.size) (b5:=w.heap.size+1) (q0:=.slice none 0 0) (q1:=.slice none 0 0) (u:=.int .i64 x) ((Below.heap_setCell _ _ _ _ (Nat.ne_of_lt (Nat.lt_succ_self _))).trans f1) (heap_setCell_same _ _ 0 _ _ _ f2) rfl rfl ⟨rfl,?_⟩
 · exact Below.drew (f3.setCell (Nat.le_succ _) _)
theorem Ai {fn:Func} {R:Ending→World→Prop} {tmps:Array Value} {W:World} {q0 q1 q2 q3 q4 u:Value} {b4 b5:Nat} (hf:fn.results=#[.cell 4 35,.cell 5 27]) (h4:W.heap[b4]? = some (.cells #[q0,q1,q2,q3,q4] 35 (0,0))) (h5:W.heap[b5]? = some (.cells #[u] 27 (0,0)))
  (t4:tmps.getD 4 undef=.pointer (some ⟨b4,0,none⟩)) (t5:tmps.getD 5 undef=.pointer (some ⟨b5,0,none⟩)) (hR:R (.returned (.tuple #[.agg #[q0,q1,q2,q3,q4],u])) W):Leaves Tryz.prog fn tmps R [] .returning W:=by
 obtain ⟨k0q,k1q,k2q,k3q,k4q,kz⟩:=Yu h4
 have c5:=(Ys h5).1
 have t4':tmps[4]?.getD undef=.pointer (some ⟨b4,0,none⟩):=by rw [← t4];simp
 have t5':tmps[5]?.getD undef=.pointer (some ⟨b5,0,none⟩):=by rw [← t5];simp
 clear kz
 simp [Leaves,results,hf,t4',t5',asAddr,go_sem,k0q,k1q,k2q,k3q,k4q,c5]
 exact hR
theorem Zzj (p:Addr) (w:World) :
  CallsD Tryz.prog 114 #[.pointer (some p)] .returning w fun e u' w'=>e=.returned (.tuple #[])∧u'=.returning∧w'=w:=by
 refine callsD_of_wpS Tryz.func114 rfl fun c₀ cs hu=>?_
 apply wpS_seq
 apply wpS_region
 simp [wpOpsS,go_sem,recoverD,hu,Tryz.ntmps114,Exit.thenS]
 refine wpS_of_wp ?_
 change Code.wp _ _ _ ⟨#[.pointer (some p),undef,undef,undef,.nilIface,undef,undef,undef,undef,undef,undef,undef],[]⟩ _
 go_wp2_with fail
 cases c₀
 simp_all [bodyPostS,results,Tryz.results114]
theorem Lf (p:Addr) (x y:Int) (older:List PanicEntry) (w:World) (hc:w.cell? p=some (.int .i64 x)) (hz:w.frozen? p=false) (hp:p.block < w.heap.size) :
  CallsD Tryz.prog 114 #[.pointer (some p)] (.panicking ({ v:=.iface 145 (.agg #[.int .i64 y]),recovered:=false } :: older)) w fun e u' w'=>e=.returned (.tuple #[])∧u'=.panicking ({ v:=.iface 145 (.agg #[.int .i64 y]),recovered:=true } :: older)∧w'=(w.alloc (.cells #[.int .i64 y] 145)).setCell p (.int .i64 y):=by
 have hta:=Gv
 have hz2:(w.alloc (.cells #[.int .i64 y] 145)).frozen? p=false:=(World.frozen?_of_block (Below.heap_alloc _ _ _ hp)).trans hz
 have hc2:(w.alloc (.cells #[.int .i64 y] 145)).cell? p=some (.int .i64 x):=(World.cell?_of_block (Below.heap_alloc _ _ _ hp)).trans hc
 refine callsD_of_wpS Tryz.func114 rfl fun c₀ cs hu=>?_
 apply wpS_seq
 apply wpS_region
 simp [wpOpsS,go_sem,recoverD,hu,Tryz.ntmps114,Exit.thenS]
 refine wpS_of_wp ?_
 change Code.wp _ _ _ ⟨#[.pointer (some p),undef,undef,undef,.iface 145 (.agg #[.int .i64 y]),undef,undef,undef,undef,undef,undef,undef],[]⟩ _
 go_wp2_with fail
 cases c₀
 simp_all [bodyPostS,results,Tryz.results114]
theorem Ybu (bx:Nat) (s:ByteArray) (w:World) (hs:s.size≤9000) (h3:Jw w) (h5:Uj w) (ts:List (Int × List UInt8)) (hl:ts.length≤200000) (R:Except Int (VT × List Tok))
   (HT:∀ g wx,Below w.heap.size w wx→w.heap.size≤g→Rd wx g (Lj ts) 0→KRd g wx→Calls Tryz.prog 48 #[.pointer (some ⟨g,0,none⟩),.pointer (some ⟨bx,0,none⟩)] wx (L8 g 0 wx (Gt Lm) R))
   (hr:Zq s.data.toList=(ts,0)) (x:Int) (hR:R=.error x):Calls Tryz.prog 47 #[.string s,.func (.func 48) #[] #[.pointer (some ⟨bx,0,none⟩)]] w fun e w'=>e=.returned (.tuple #[.agg #[.int .i64 0,.int .i64 0,.string ⟨#[]⟩,.slice none 0 0,.slice none 0 0],.int .i64 x])∧Below w.heap.size w w':=by
 have hmf:∀ (fn:Fn) (first cap:Array Value) (w:World),(Instr.makeFunc fn first cap).run Tryz.prog w=.ok (.func fn first cap) w:=fun _ _ _ _=>rfl
 have HR:=fun wx (hb:Below w.heap.size w wx)=>Hd (by have:=Io s wx hs (h3.below hb);rw [hr] at this;exact this)
 have HTT:=Hd HT
 have B0:=Hd (Xf w (.cells #[.int .i64 0,.int .i64 0,.string ⟨#[]⟩,.slice none 0 0,.slice none 0 0] 35) (.cells #[.int .i64 0] 27))
 obtain ⟨y0,y1⟩:=Jz w (.cells #[.int .i64 0,.int .i64 0,.string ⟨#[]⟩,.slice none 0 0,.slice none 0 0] 35) (.cells #[.int .i64 0] 27)
 have Y:=Hd (And.intro y0 y1)
 have hsz:Hid (((w.alloc (.cells #[.int .i64 0,.int .i64 0,.string ⟨#[]⟩,.slice none 0 0,.slice none 0 0] 35)).alloc (.cells #[.int .i64 0] 27)).heap.size=w.heap.size+2):=Hd (by simp)
 have H5:=Hd h5
 clear hr HT y0 y1
 go_enter_defers Tryz.func47,Tryz.ntmps47
 go_wp2_with fail
 refine (HR _ B0.out).out.mono ?_
 rintro e w2 ⟨A,cap,rfl,hown,hb2⟩
 have z4:=(hb2.block w.heap.size (by have:=hsz.out;omega)).trans Y.out.1
 have z5:=(hb2.block (w.heap.size+1) (by have:=hsz.out;omega)).trans Y.out.2
 obtain ⟨k0q,k1q,k2q,k3q,k4q,kz⟩:=Yu z4
 have kf0:=kz 0
 have kf1:=kz 1
 have kf2:=kz 2
 have kf3:=kz 3
 have kf4:=kz 4
 clear kz
 obtain ⟨e0,e1⟩:=Ys z5
 have Z:=Hd (And.intro z4 z5)
 have B2:=Hd (B0.out.trans (hb2.mono (by have:=hsz.out;omega)))
 have OW:=Hd hown
 clear hb2 hown z4 z5
 go_wp2_with fail
 have R3:=Hd (En (w:=w) OW.out hl (Nat.le_of_eq hsz.out.symm) (v:=.int .i64 0))
 have D3:=Hd (Uv Z.out.1 Z.out.2 (v:=.int .i64 0) (o:=.cells #[.slice A ts.length cap,.int .i64 0] 147))
 have KR:=Hd (show KRd w2.heap.size _ from ⟨w,H5.out,by have:=D3.out.2.2.2.1;omega,Ye B2.out D3.out.2.2.1 (Z0.refl _ _) D3.out.2.2.2.1⟩)
 refine (HTT.out _ _ (Ye B2.out D3.out.2.2.1 (Z0.refl _ _) D3.out.2.2.2.1) (by have:=D3.out.2.2.2.1;omega) R3.out KR.out).mono ?_
 rw [hR]
 intro e w4 h
 obtain ⟨rfl,m4⟩:=Yr h
 have z4:=m4.keep D3.out.1 (by have:=D3.out.2.2.2.1;omega)
 have z5:=m4.keep D3.out.2.1 (by have:=D3.out.2.2.2.1;omega)
 clear e0 e1 k0q kf0 k1q kf1 k2q kf2 k3q kf3 k4q kf4
 obtain ⟨e0,e1⟩:=Ys z5
 have hlt5:=(Array.getElem?_eq_some_iff.1 z5).1
 have B4:=Hd (Ye B2.out D3.out.2.2.1 m4 D3.out.2.2.2.1)
 have Z4:=Hd (And.intro z4 z5)
 refine leaves_cons (f:=114) (args:=#[.pointer (some ⟨w.heap.size+1,0,none⟩)]) (by simp) (by simp [go_sem]) ?_
 refine (Lf ⟨w.heap.size+1,0,none⟩ 0 x [] _ e0 e1 hlt5).mono ?_
 rintro e u' w'' ⟨rfl,rfl,rfl⟩
 refine Ai rfl (b4:=w.heap.size) (b5:=w.heap.size+1) (u:=.int .i64 x) ?_ ?_ rfl rfl ⟨rfl,?_⟩
 · rw [Below.heap_setCell _ _ _ _ (Nat.ne_of_lt (Nat.lt_succ_self _)),Below.heap_alloc _ _ _ (by omega)];exact Z4.out.1
 · exact heap_setCell_same _ _ 0 _ _ _ ((Below.heap_alloc _ _ _ hlt5).trans Z4.out.2)
 · exact (B4.out.alloc B4.out.size _).setCell (Nat.le_succ _) _
theorem Zze (bx:Nat) (s:ByteArray) (w:World) (hs:s.size≤9000) (h3:Jw w) (h5:Uj w) (ts:List (Int × List UInt8)) (hl:ts.length≤200000) (R:Except Int (VT × List Tok))
   (HT:∀ g wx,Below w.heap.size w wx→w.heap.size≤g→Rd wx g (Lj ts) 0→KRd g wx→Calls Tryz.prog 48 #[.pointer (some ⟨g,0,none⟩),.pointer (some ⟨bx,0,none⟩)] wx (L8 g 0 wx (Gt Lm) R))
   (hr:Zq s.data.toList=(ts,0)) (a:VT) (t:Tok) (ts2:List Tok) (hR:R=.ok (a,t :: ts2)):Calls Tryz.prog 47 #[.string s,.func (.func 48) #[] #[.pointer (some ⟨bx,0,none⟩)]] w fun e w'=>e=.returned (.tuple #[.agg #[.int .i64 0,.int .i64 0,.string ⟨#[]⟩,.slice none 0 0,.slice none 0 0],.int .i64 2])∧Below w.heap.size w w':=by
 have hmf:∀ (fn:Fn) (first cap:Array Value) (w:World),(Instr.makeFunc fn first cap).run Tryz.prog w=.ok (.func fn first cap) w:=fun _ _ _ _=>rfl
 have HR:=fun wx (hb:Below w.heap.size w wx)=>Hd (by have:=Io s wx hs (h3.below hb);rw [hr] at this;exact this)
 have HTT:=Hd HT
 have B0:=Hd (Xf w (.cells #[.int .i64 0,.int .i64 0,.string ⟨#[]⟩,.slice none 0 0,.slice none 0 0] 35) (.cells #[.int .i64 0] 27))
 obtain ⟨y0,y1⟩:=Jz w (.cells #[.int .i64 0,.int .i64 0,.string ⟨#[]⟩,.slice none 0 0,.slice none 0 0] 35) (.cells #[.int .i64 0] 27)
 have Y:=Hd (And.intro y0 y1)
 have hsz:Hid (((w.alloc (.cells #[.int .i64 0,.int .i64 0,.string ⟨#[]⟩,.slice none 0 0,.slice none 0 0] 35)).alloc (.cells #[.int .i64 0] 27)).heap.size=w.heap.size+2):=Hd (by simp)
 have H5:=Hd h5
 clear hr HT y0 y1
 go_enter_defers Tryz.func47,Tryz.ntmps47
 go_wp2_with fail
 refine (HR _ B0.out).out.mono ?_
 rintro e w2 ⟨A,cap,rfl,hown,hb2⟩
 have z4:=(hb2.block w.heap.size (by have:=hsz.out;omega)).trans Y.out.1
 have z5:=(hb2.block (w.heap.size+1) (by have:=hsz.out;omega)).trans Y.out.2
 obtain ⟨k0q,k1q,k2q,k3q,k4q,kz⟩:=Yu z4
 have kf0:=kz 0
 have kf1:=kz 1
 have kf2:=kz 2
 have kf3:=kz 3
 have kf4:=kz 4
 clear kz
 obtain ⟨e0,e1⟩:=Ys z5
 have Z:=Hd (And.intro z4 z5)
 have B2:=Hd (B0.out.trans (hb2.mono (by have:=hsz.out;omega)))
 have OW:=Hd hown
 clear hb2 hown z4 z5
 go_wp2_with fail
 have R3:=Hd (En (w:=w) OW.out hl (Nat.le_of_eq hsz.out.symm) (v:=.int .i64 0))
 have D3:=Hd (Uv Z.out.1 Z.out.2 (v:=.int .i64 0) (o:=.cells #[.slice A ts.length cap,.int .i64 0] 147))
 have KR:=Hd (show KRd w2.heap.size _ from ⟨w,H5.out,by have:=D3.out.2.2.2.1;omega,Ye B2.out D3.out.2.2.1 (Z0.refl _ _) D3.out.2.2.2.1⟩)
 refine (HTT.out _ _ (Ye B2.out D3.out.2.2.1 (Z0.refl _ _) D3.out.2.2.2.1) (by have:=D3.out.2.2.2.1;omega) R3.out KR.out).mono ?_
 rw [hR]
 intro e w4 h
 obtain ⟨⟨v,rfl,hly⟩,r4,m4⟩:=Jh h
 obtain ⟨vk,vn,vs,A3,n3,k3,A4,n4,k4,rfl,_⟩:=W4 hly
 have z4:=m4.keep D3.out.1 (by have:=D3.out.2.2.2.1;omega)
 have z5:=m4.keep D3.out.2.1 (by have:=D3.out.2.2.2.1;omega)
 have B4:=Hd (Ye B2.out D3.out.2.2.1 m4 D3.out.2.2.2.1)
 have Z4:=Hd (And.intro z4 z5)
 have HE:=Hd (fun wx (hb:Below w4.heap.size w4 wx)=>Jb w2.heap.size (t :: ts2) 0 wx (r4.below hb))
 have hlt4:w.heap.size+1 < w4.heap.size:=(Array.getElem?_eq_some_iff.1 z5).1
 clear e0 e1 k0q kf0 k1q kf1 k2q kf2 k3q kf3 k4q kf4 z4 z5 r4 m4 hly h
 go_wp2_with fail
 refine (HE.out _ (blw _ _)).mono ?_
 rintro e w5 ⟨rfl,rfl⟩
 have A6:=Hd (Ip Z4.out.1 Z4.out.2 (o:=.cells #[.int .i64 vk,.int .i64 vn,.string vs,.slice A3 n3 k3,.slice A4 n4 k4] 35))
 obtain ⟨e0,e1⟩:=Ys A6.out.2.1
 have hlt5:w.heap.size+1 < (w4.alloc (.cells #[.int .i64 vk,.int .i64 vn,.string vs,.slice A3 n3 k3,.slice A4 n4 k4] 35)).heap.size:=by simp;omega
 go_wp2_with fail
 refine leaves_cons (f:=114) (args:=#[.pointer (some ⟨w.heap.size+1,0,none⟩)]) (by simp) (by simp [go_sem]) ?_
 refine (Lf ⟨w.heap.size+1,0,none⟩ 0 2 [] _ e0 e1 hlt5).mono ?_
 rintro e u' w'' ⟨rfl,rfl,rfl⟩
 refine Ai rfl (b4:=w.heap.size) (b5:=w.heap.size+1) (u:=.int .i64 2) ?_ ?_ rfl rfl ⟨rfl,?_⟩
 · rw [Below.heap_setCell _ _ _ _ (Nat.ne_of_lt (Nat.lt_succ_self _)),Below.heap_alloc _ _ _ (by omega)];exact A6.out.1
 · exact heap_setCell_same _ _ 0 _ _ _ ((Below.heap_alloc _ _ _ hlt5).trans A6.out.2.1)
 · exact ((B4.out.alloc B4.out.size _).alloc (by have:=B4.out.size;simp;omega) _).setCell (Nat.le_succ _) _
theorem Zv5 (bx:Nat) (s:ByteArray) (w:World) (hs:s.size≤9000) (h3:Jw w) (h5:Uj w) (ts:List (Int × List UInt8)) (hl:ts.length≤200000) (R:Except Int (VT × List Tok))
  (HT:∀ g wx,Below w.heap.size w wx→w.heap.size≤g→Rd wx g (Lj ts) 0→KRd g wx→Calls Tryz.prog 48 #[.pointer (some ⟨g,0,none⟩),.pointer (some ⟨bx,0,none⟩)] wx (L8 g 0 wx (Gt Lm) R))
  (hr:Zq s.data.toList=(ts,0)) (a:VT) (hR:R=.ok (a,[])):Calls Tryz.prog 47 #[.string s,.func (.func 48) #[] #[.pointer (some ⟨bx,0,none⟩)]] w fun e w'=>∃ cs:List Value,e=.returned (.tuple #[.agg cs.toArray,.int .i64 0])∧TS w' (Zs w w') (Lm a) cs∧Below w.heap.size w w':=by
 have hmf:∀ (fn:Fn) (first cap:Array Value) (w:World),(Instr.makeFunc fn first cap).run Tryz.prog w=.ok (.func fn first cap) w:=fun _ _ _ _=>rfl
 have HR:=fun wx (hb:Below w.heap.size w wx)=>Hd (by have:=Io s wx hs (h3.below hb);rw [hr] at this;exact this)
 have HTT:=Hd HT
 have B0:=Hd (Xf w (.cells #[.int .i64 0,.int .i64 0,.string ⟨#[]⟩,.slice none 0 0,.slice none 0 0] 35) (.cells #[.int .i64 0] 27))
 obtain ⟨y0,y1⟩:=Jz w (.cells #[.int .i64 0,.int .i64 0,.string ⟨#[]⟩,.slice none 0 0,.slice none 0 0] 35) (.cells #[.int .i64 0] 27)
 have Y:=Hd (And.intro y0 y1)
 have hsz:Hid (((w.alloc (.cells #[.int .i64 0,.int .i64 0,.string ⟨#[]⟩,.slice none 0 0,.slice none 0 0] 35)).alloc (.cells #[.int .i64 0] 27)).heap.size=w.heap.size+2):=Hd (by simp)
 have H5:=Hd h5
 clear hr HT y0 y1
 go_enter_defers Tryz.func47,Tryz.ntmps47
 go_wp2_with fail
 refine (HR _ B0.out).out.mono ?_
 rintro e w2 ⟨A,cap,rfl,hown,hb2⟩
 have z4:=(hb2.block w.heap.size (by have:=hsz.out;omega)).trans Y.out.1
 have z5:=(hb2.block (w.heap.size+1) (by have:=hsz.out;omega)).trans Y.out.2
 obtain ⟨k0q,k1q,k2q,k3q,k4q,kz⟩:=Yu z4
 have kf0:=kz 0
 have kf1:=kz 1
 have kf2:=kz 2
 have kf3:=kz 3
 have kf4:=kz 4
 clear kz
 obtain ⟨e0,e1⟩:=Ys z5
 have Z:=Hd (And.intro z4 z5)
 have B2:=Hd (B0.out.trans (hb2.mono (by have:=hsz.out;omega)))
 have OW:=Hd hown
 clear hb2 hown z4 z5
 go_wp2_with fail
 have R3:=Hd (En (w:=w) OW.out hl (Nat.le_of_eq hsz.out.symm) (v:=.int .i64 0))
 have D3:=Hd (Uv Z.out.1 Z.out.2 (v:=.int .i64 0) (o:=.cells #[.slice A ts.length cap,.int .i64 0] 147))
 have KR:=Hd (show KRd w2.heap.size _ from ⟨w,H5.out,by have:=D3.out.2.2.2.1;omega,Ye B2.out D3.out.2.2.1 (Z0.refl _ _) D3.out.2.2.2.1⟩)
 refine (HTT.out _ _ (Ye B2.out D3.out.2.2.1 (Z0.refl _ _) D3.out.2.2.2.1) (by have:=D3.out.2.2.2.1;omega) R3.out KR.out).mono ?_
 rw [hR]
 intro e w4 h
 obtain ⟨⟨v,rfl,hly⟩,r4,m4⟩:=Jh h
 obtain ⟨vk,vn,vs,A3,n3,k3,A4,n4,k4,rfl,hts⟩:=W4 hly
 have z4:=m4.keep D3.out.1 (by have:=D3.out.2.2.2.1;omega)
 have z5:=m4.keep D3.out.2.1 (by have:=D3.out.2.2.2.1;omega)
 have B4:=Hd (Ye B2.out D3.out.2.2.1 m4 D3.out.2.2.2.1)
 have Z4:=Hd (And.intro z4 z5)
 have TT:=Hd hts
 have HE:=Hd (fun wx (hb:Below w4.heap.size w4 wx)=>Jb w2.heap.size [] 0 wx (r4.below hb))
 have hlt4:w.heap.size+1 < w4.heap.size:=(Array.getElem?_eq_some_iff.1 z5).1
 clear e0 e1 k0q kf0 k1q kf1 k2q kf2 k3q kf3 k4q kf4 z4 z5 r4 m4 hly hts h
 go_wp2_with fail
 refine (HE.out _ (blw _ _)).mono ?_
 rintro e w5 ⟨rfl,rfl⟩
 have A6:=Hd (Ip Z4.out.1 Z4.out.2 (o:=.cells #[.int .i64 vk,.int .i64 vn,.string vs,.slice A3 n3 k3,.slice A4 n4 k4] 35))
 obtain ⟨k0q,k1q,k2q,k3q,k4q,kz⟩:=Yu A6.out.1
 have kf0:=kz 0
 have kf1:=kz 1
 have kf2:=kz 2
 have kf3:=kz 3
 have kf4:=kz 4
 clear kz
 obtain ⟨e0,e1⟩:=Ys A6.out.2.1
 obtain ⟨j0q,j1q,j2q,j3q,j4q,jz⟩:=Yu A6.out.2.2
 have jf0:=jz 0
 have jf1:=jz 1
 have jf2:=jz 2
 have jf3:=jz 3
 have jf4:=jz 4
 clear jz
 go_wp2_with fail
 refine leaves_cons (f:=114) (args:=#[.pointer (some ⟨w.heap.size+1,0,none⟩)]) (by simp) (by simp [go_sem]) ?_
 refine (Zzj ⟨w.heap.size+1,0,none⟩ _).mono ?_
 rintro e u' w'' ⟨rfl,rfl,rfl⟩
 have f1:=Y9 (b:=w.heap.size) (t:=35) (ys:=[.int .i64 0,.int .i64 0,.string ⟨#[]⟩,.slice none 0 0,.slice none 0 0]) (xs:=[.int .i64 vk,.int .i64 vn,.string vs,.slice A3 n3 k3,.slice A4 n4 k4]) rfl A6.out.1
 have f2:=(Yb (b:=w.heap.size) (k:=w.heap.size+1) (by omega) [.int .i64 vk,.int .i64 vn,.string vs,.slice A3 n3 k3,.slice A4 n4 k4] 0 _).trans A6.out.2.1
 have f3:=Yq (Nat.le_refl _) [.int .i64 vk,.int .i64 vn,.string vs,.slice A3 n3 k3,.slice A4 n4 k4] 0 _ (B4.out.alloc B4.out.size (.cells #[.int .i64 vk,.int .i64 vn,.string vs,.slice A3 n3 k3,.slice A4 n4 k4] 35))
 refine Ai rfl (b4:=w.heap.size) (b5:=w.heap.size+1) (u:=.int .i64 0) ((Below.heap_setCell _ _ _ _ (Nat.ne_of_lt (Nat.lt_succ_self _))).trans f1) (heap_setCell_same _ _ 0 _ _ _ f2) rfl rfl ⟨_,rfl,Nu (w:=w) (xs:=[.int .i64 vk,.int .i64 vn,.string vs,.slice A3 n3 k3,.slice A4 n4 k4]) (o:=.cells #[.int .i64 vk,.int .i64 vn,.string vs,.slice A3 n3 k3,.slice A4 n4 k4] 35) (v:=.int .i64 0) TT.out (by have h8:=D3.out.2.2.2.1;have h9:=D3.out.2.2.2.2;omega),f3.setCell (Nat.le_succ _) _⟩
theorem Zyd (bx:Nat) (s:ByteArray) (w:World) (hs:s.size≤9000) (h3:Jw w) (ts:List (Int × List UInt8)) (x:Int) (hx:x ≠ 0) (hr:Zq s.data.toList=(ts,x)):Calls Tryz.prog 47 #[.string s,.func (.func 48) #[] #[.pointer (some ⟨bx,0,none⟩)]] w fun e w'=>e=.returned (.tuple #[.agg #[.int .i64 0,.int .i64 0,.string ⟨#[]⟩,.slice none 0 0,.slice none 0 0],.int .i64 x])∧Below w.heap.size w w':=by
 have HR:=fun wx (hb:Below w.heap.size w wx)=>Hd (by have:=Io s wx hs (h3.below hb);rw [hr] at this;exact this)
 have B0:=Hd (Xf w (.cells #[.int .i64 0,.int .i64 0,.string ⟨#[]⟩,.slice none 0 0,.slice none 0 0] 35) (.cells #[.int .i64 0] 27))
 obtain ⟨y0,y1⟩:=Jz w (.cells #[.int .i64 0,.int .i64 0,.string ⟨#[]⟩,.slice none 0 0,.slice none 0 0] 35) (.cells #[.int .i64 0] 27)
 have Y:=Hd (And.intro y0 y1)
 have hsz:Hid (((w.alloc (.cells #[.int .i64 0,.int .i64 0,.string ⟨#[]⟩,.slice none 0 0,.slice none 0 0] 35)).alloc (.cells #[.int .i64 0] 27)).heap.size=w.heap.size+2):=Hd (by simp)
 have hx':(x != 0)=true:=by simpa using hx
 clear hr y0 y1 hx
 go_enter_defers Tryz.func47,Tryz.ntmps47
 go_wp2_with fail
 refine (HR _ B0.out).out.mono ?_
 rintro e w2 ⟨A,cap,rfl,hown,hb2⟩
 have z4:=(hb2.block w.heap.size (by have:=hsz.out;omega)).trans Y.out.1
 have z5:=(hb2.block (w.heap.size+1) (by have:=hsz.out;omega)).trans Y.out.2
 obtain ⟨k0q,k1q,k2q,k3q,k4q,kz⟩:=Yu z4
 have kf0:=kz 0
 have kf1:=kz 1
 have kf2:=kz 2
 have kf3:=kz 3
 have kf4:=kz 4
 clear kz
 obtain ⟨e0,e1⟩:=Ys z5
 have Z:=Hd (And.intro z4 z5)
 have B2:=Hd (B0.out.trans (hb2.mono (by have:=hsz.out;omega)))
 clear hb2 hown z4 z5
 go_wp2_with fail
 have D:=Hd (show (w2.setCell ⟨w.heap.size+1,0,none⟩ (.int .i64 x)).heap[w.heap.size]? = some (.cells #[.int .i64 0,.int .i64 0,.string ⟨#[]⟩,.slice none 0 0,.slice none 0 0] 35 (0,0))∧(w2.setCell ⟨w.heap.size+1,0,none⟩ (.int .i64 x)).heap[w.heap.size+1]? = some (.cells #[.int .i64 x] 27 (0,0)) from ⟨V9 Z.out.1 (by omega),heap_setCell_same _ _ 0 _ _ _ Z.out.2⟩)
 clear k0q kf0 k1q kf1 k2q kf2 k3q kf3 k4q kf4 e0 e1
 have BD:=Hd (B2.out.setCell (p:=⟨w.heap.size+1,0,none⟩) (Nat.le_succ _) (.int .i64 x))
 obtain ⟨k0q,k1q,k2q,k3q,k4q,kz⟩:=Yu D.out.1
 have kf0:=kz 0
 have kf1:=kz 1
 have kf2:=kz 2
 have kf3:=kz 3
 have kf4:=kz 4
 clear kz
 obtain ⟨e0,e1⟩:=Ys D.out.2
 generalize (w2.setCell ⟨w.heap.size+1,0,none⟩ (.int .i64 x))=w3 at *
 refine wp_region_held_drew (S:=fun _=>True) (by kernel_rfl) trivial (fun _=>?_)
 refine rdE (rs:=[0,1]) ?_
 refine AllReadyH.cons rfl (fun K hK=>?_) ?_
 · skip
   go_simp
   refine hK.out _ _ trivial (fun _=>?_)
   clear hK K
   try simp only [Act.put,stT,stZ,stS]
   refine rd2E 1 2 rfl rfl (fun K hK=>?_) (fun K hK=>?_)
   focus
    go_simp
    refine hK.out _ _ trivial (fun _=>?_)
    clear hK K
    try simp only [Act.put,stT,stZ,stS]
    refine rdE (rs:=[2]) ?_
   rotate_left
   focus
    go_simp
    refine hK.out _ _ trivial (fun _=>?_)
    clear hK K
    try simp only [Act.put,stT,stZ,stS]
    refine rdE (rs:=[1]) ?_
   all_goals
    refine AllReadyH.cons rfl (fun K hK=>?_) AllReadyH.nil
    go_simp
    refine hK.out _ _ trivial (fun _=>?_)
    clear hK K
    try simp only [Act.put,stT,stZ,stS]
    refine rd1E 3 rfl (fun K hK=>?_)
    go_simp
    refine hK.out _ _ trivial (fun _=>?_)
    clear hK K
    try simp only [Act.put,stT,stZ,stS]
    refine wpAnyH_done (by kernel_rfl) ?_ _
    go_wp2_with fail
    simp only [bodyPostD]
    have f1:=Y9 (b:=w.heap.size) (t:=35) (ys:=[.int .i64 0,.int .i64 0,.string ⟨#[]⟩,.slice none 0 0,.slice none 0 0]) (xs:=[.int .i64 0,.int .i64 0,.string ⟨#[]⟩,.slice none 0 0,.slice none 0 0]) rfl D.out.1
    have f2:=(Yb (b:=w.heap.size) (k:=w.heap.size+1) (by omega) [.int .i64 0,.int .i64 0,.string ⟨#[]⟩,.slice none 0 0,.slice none 0 0] 0 _).trans D.out.2
    have f3:=(Yq (Nat.le_refl _) [.int .i64 0,.int .i64 0,.string ⟨#[]⟩,.slice none 0 0,.slice none 0 0] 0 _ BD.out).setCell (p:=⟨w.heap.size+1,0,none⟩) (Nat.le_succ _) (.int .i64 x)
    have f4:=(Below.heap_setCell (setAll w3 w.heap.size 0 [.int .i64 0,.int .i64 0,.string ⟨#[]⟩,.slice none 0 0,.slice none 0 0]) ⟨w.heap.size+1,0,none⟩ (.int .i64 x) w.heap.size (Nat.ne_of_lt (Nat.lt_succ_self _))).trans f1
    have f5:=heap_setCell_same (setAll w3 w.heap.size 0 [.int .i64 0,.int .i64 0,.string ⟨#[]⟩,.slice none 0 0,.slice none 0 0]) (w.heap.size+1) 0 _ _ (.int .i64 x) f2
    change Leaves _ _ _ _ _ _ (World.drew ((setAll w3 w.heap.size 0 [.int .i64 0,.int .i64 0,.string ⟨#[]⟩,.slice none 0 0,.slice none 0 0]).setCell ⟨w.heap.size+1,0,none⟩ (.int .i64 x)))
    generalize (setAll w3 w.heap.size 0 [.int .i64 0,.int .i64 0,.string ⟨#[]⟩,.slice none 0 0,.slice none 0 0]).setCell ⟨w.heap.size+1,0,none⟩ (.int .i64 x)=W9 at f3 f4 f5 ⊢
    exact Ai rfl (b4:=w.heap.size) (b5:=w.heap.size+1) (u:=.int .i64 x) (show W9.heap[w.heap.size]? = _ from f4) (show W9.heap[w.heap.size+1]? = _ from f5) rfl rfl ⟨rfl,Below.drew f3⟩
 refine AllReadyH.cons rfl (fun K hK=>?_) AllReadyH.nil
 go_simp
 refine hK.out _ _ trivial (fun _=>?_)
 clear hK K
 try simp only [Act.put,stT,stZ,stS]
 refine rd1E 0 rfl (fun K hK=>?_)
 go_simp
 refine hK.out _ _ trivial (fun _=>?_)
 clear hK K
 try simp only [Act.put,stT,stZ,stS]
 refine rd1E 2 rfl (fun K hK=>?_)
 go_simp
 refine hK.out _ _ trivial (fun _=>?_)
 clear hK K
 try simp only [Act.put,stT,stZ,stS]
 refine rd1E 3 rfl (fun K hK=>?_)
 go_simp
 refine hK.out _ _ trivial (fun _=>?_)
 clear hK K
 try simp only [Act.put,stT,stZ,stS]
 refine wpAnyH_done (by kernel_rfl) ?_ _
 go_wp2_with fail
 simp only [bodyPostD]
 have f1:=Y9 (b:=w.heap.size) (t:=35) (ys:=[.int .i64 0,.int .i64 0,.string ⟨#[]⟩,.slice none 0 0,.slice none 0 0]) (xs:=[.int .i64 0,.int .i64 0,.string ⟨#[]⟩,.slice none 0 0,.slice none 0 0]) rfl D.out.1
 have f2:=(Yb (b:=w.heap.size) (k:=w.heap.size+1) (by omega) [.int .i64 0,.int .i64 0,.string ⟨#[]⟩,.slice none 0 0,.slice none 0 0] 0 _).trans D.out.2
 have f3:=(Yq (Nat.le_refl _) [.int .i64 0,.int .i64 0,.string ⟨#[]⟩,.slice none 0 0,.slice none 0 0] 0 _ BD.out).setCell (p:=⟨w.heap.size+1,0,none⟩) (Nat.le_succ _) (.int .i64 x)
 have f4:=(Below.heap_setCell (setAll w3 w.heap.size 0 [.int .i64 0,.int .i64 0,.string ⟨#[]⟩,.slice none 0 0,.slice none 0 0]) ⟨w.heap.size+1,0,none⟩ (.int .i64 x) w.heap.size (Nat.ne_of_lt (Nat.lt_succ_self _))).trans f1
 have f5:=heap_setCell_same (setAll w3 w.heap.size 0 [.int .i64 0,.int .i64 0,.string ⟨#[]⟩,.slice none 0 0,.slice none 0 0]) (w.heap.size+1) 0 _ _ (.int .i64 x) f2
 change Leaves _ _ _ _ _ _ (World.drew ((setAll w3 w.heap.size 0 [.int .i64 0,.int .i64 0,.string ⟨#[]⟩,.slice none 0 0,.slice none 0 0]).setCell ⟨w.heap.size+1,0,none⟩ (.int .i64 x)))
 generalize (setAll w3 w.heap.size 0 [.int .i64 0,.int .i64 0,.string ⟨#[]⟩,.slice none 0 0,.slice none 0 0]).setCell ⟨w.heap.size+1,0,none⟩ (.int .i64 x)=W9 at f3 f4 f5 ⊢
 exact Ai rfl (b4:=w.heap.size) (b5:=w.heap.size+1) (u:=.int .i64 x) (show W9.heap[w.heap.size]? = _ from f4) (show W9.heap[w.heap.size+1]? = _ from f5) rfl rfl ⟨rfl,Below.drew f3⟩
end Go.Proofs.YtpkmbhnikilihaaGreatDoor
