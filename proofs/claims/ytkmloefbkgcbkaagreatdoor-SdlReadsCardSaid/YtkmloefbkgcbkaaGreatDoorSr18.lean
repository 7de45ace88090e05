/- The walk of token's Read, and of Number. -/
import Derived.Test.YtkmloefbkgcbkaaGreatDoorSr17
set_option maxRecDepth 100000
set_option maxHeartbeats 4000000
namespace Go.Proofs.YtkmloefbkgcbkaaGreatDoor
open Go.RowKit
def X8 (ts:List (Int × List UInt8)):List Value:=ts.flatMap fun t=>[.int .i64 t.1,.string ⟨t.2.toArray⟩]
theorem Zk3:∀ ts,(X8 ts).length=ts.length*2:=by
 intro ts
 induction ts with
 | nil=>rfl
 | cons t ts ih=>show ([_,_]++X8 ts).length=_;rw [List.length_append,ih];simp;omega
theorem I0 (ts:List (Int × List UInt8)) (k:Int) (x:List UInt8):X8 (ts++[(k,x)])=X8 ts++[.int .i64 k,.string ⟨x.toArray⟩]:=by simp [X8]
def Zz (l:List UInt8):List (Int × List UInt8) × Int:=if 8192 < l.length then ([],3) else if X7 l=false then ([],2) else match Ua l with|none=>([],2)|some ts=>(ts,0)
theorem Zxn:(Tryz.prog.info? 45).map (fun i=>(i.zero,i.size,i.bytes))=some (some (.agg #[.int .i64 0,.string ⟨#[]⟩]),2,24):=by kernel_rfl
theorem Vt {w:World} {base:Nat} {e:TypeId} {v:Value} {n:Nat} {xs:List Value} (h:w.ownsRow base e 2 v n xs):∃ A cap,v=.slice A n cap:=by
 rcases h.2 with ⟨hv,hn⟩|⟨g,cap,cur,hv,_⟩
 · exact ⟨none,0,by rw [hv,hn]⟩
 · exact ⟨_,_,hv⟩
theorem Zz6 (w:World) (a b:Value) (t:TypeId):∀ (j:Nat) u,[a,b][j]? = some u→(w.alloc (.cells #[a,b] t)).cell? ((⟨w.heap.size,0,none⟩:Addr).add j)=some u:=by
 intro j u hu;have hadd:(⟨w.heap.size,0,none⟩:Addr).add j=⟨w.heap.size,j,none⟩:=by unfold Addr.add;split<;>simp_all
 rw [hadd]
 match j,hu with
 | 0,hu=>cases hu;rw [World.cell?_alloc_at _ _ _ _ rfl];rfl
 | 1,hu=>cases hu;rw [World.cell?_alloc_at _ _ _ _ rfl];rfl
 | j+2,hu=>simp at hu
abbrev U0:Array Value:=#[.func (.func 39) #[] #[],.func (.func 40) #[] #[],.func (.func 41) #[] #[],.func (.func 42) #[] #[]]
theorem Ygl {w:World} {B B':Nat} {e:TypeId} {k:Nat} {v:Value} {n:Nat} {xs:List Value} (h:w.ownsRow B e k v n xs) (hB:B'≤B):w.ownsRow B' e k v n xs:=by
 refine ⟨h.1,h.2.imp id ?_⟩;rintro ⟨g,cap,cur,hv,hb,r⟩;exact ⟨g,cap,cur,hv,by omega,r⟩
theorem Ic (w:World) (a b:Value) (t:TypeId) {n:Nat} (hn:n=w.heap.size):∀ (j:Nat) u,[a,b][j]? = some u→(w.alloc (.cells #[a,b] t)).cell? ((⟨n,0,none⟩:Addr).add j)=some u:=by
 subst hn;exact Zz6 w a b t
theorem Ypn (w:World):(Instr.index 80 (.agg U0) (.int .i64 0)).run Tryz.prog w=.ok (.func (.func 39) #[] #[]) w:=by kernel_rfl
theorem Yoe (w:World):(Instr.index 80 (.agg U0) (.int .i64 1)).run Tryz.prog w=.ok (.func (.func 40) #[] #[]) w:=by kernel_rfl
theorem Yp2 (w:World):(Instr.index 80 (.agg U0) (.int .i64 2)).run Tryz.prog w=.ok (.func (.func 41) #[] #[]) w:=by kernel_rfl
theorem Ypi (w:World):(Instr.index 80 (.agg U0) (.int .i64 3)).run Tryz.prog w=.ok (.func (.func 42) #[] #[]) w:=by kernel_rfl
def Wv (l:List UInt8):Nat→Nat|0=>J6 l|1=>Je l|2=>(nbL l).1|_=>match Xx l with|some q=>q.2|none=>0
def Ydk (l:List UInt8):Nat→Int|0=>1|1=>2|2=>(nbL l).2|_=>5
def Ydc (l:List UInt8):Nat→List UInt8|0=>l.take (J6 l)|1=>l.take (Je l)|2=>l.take (nbL l).1|_=>match Xx l with|some q=>q.1|none=>[]
def Yo5:Nat→Nat|0=>39|1=>40|2=>41|_=>42
theorem Ygf (s:ByteArray) (w:World) (hs:s.size≤9000) (h3:Ue w) (j:Nat):Calls Tryz.prog (Yo5 j) #[.string s] w fun e w'=>e=.returned (Zzh (Ydk s.data.toList j) (Ydc s.data.toList j) (Wv s.data.toList j))∧Below w.heap.size w w':=by
 match j with
 | 0=>exact Yit s w
 | 1=>exact Yht s w (by omega)
 | 2=>exact Pt s w (by omega)
 | j+3 =>
   have h:=Ybp s w hs h3;unfold Lc at h
   show Calls Tryz.prog 42 _ _ fun e w'=>e=.returned (Zzh 5 (match Xx s.data.toList with|some q=>q.1|none=>[]) (match Xx s.data.toList with|some q=>q.2|none=>0))∧_
   cases hq:Xx s.data.toList with
   | none=>rw [hq] at h;exact h
   | some q=>rw [hq] at h;exact h
theorem Ykt (s:ByteArray) (k:Nat) (w:World) (hs:s.size≤9000) (h3:Ue w) (j:Nat):Calls Tryz.prog (Yo5 j) #[.string (s.extract k s.size)] w fun e w'=>e=.returned (Zzh (Ydk (s.data.toList.drop k) j) (Ydc (s.data.toList.drop k) j) (Wv (s.data.toList.drop k) j))∧Below w.heap.size w w':=by
 have h:=Ygf (s.extract k s.size) w (by rw [Ur];omega) h3 j
 rwa [Xm] at h
theorem Ybc {l:List UInt8} {j:Nat} (hj:j < 4) (h0:∀ i,i < j→Wv l i=0) (hn:Wv l j ≠ 0):Lb l=some ((Ydk l j,Ydc l j),Wv l j):=by
 unfold Lb;rcases (by omega:j=0∨j=1∨j=2∨j=3) with rfl|rfl|rfl|rfl
 · rw [if_pos (show J6 l ≠ 0 from hn)];rfl
 · have a:=h0 0 (by omega)
   rw [if_neg (by show ¬ J6 l ≠ 0;rw [show J6 l=0 from a];simp),if_pos (show Je l ≠ 0 from hn)];rfl
 · have a:=h0 0 (by omega)
   have b:=h0 1 (by omega);rw [if_neg (by rw [show J6 l=0 from a];simp),if_neg (by rw [show Je l=0 from b];simp),if_pos (show (nbL l).1 ≠ 0 from hn)];rfl
 · have a:=h0 0 (by omega)
   have b:=h0 1 (by omega);have c:=h0 2 (by omega);rw [if_neg (by rw [show J6 l=0 from a];simp),if_neg (by rw [show Je l=0 from b];simp),if_neg (by rw [show (nbL l).1=0 from c];simp)];unfold Wv at hn;simp only [Wv,Ydc,Ydk]
   cases hq:Xx l with
   | none=>rw [hq] at hn;exact absurd rfl hn
   | some q=>rfl
theorem Zjl {l:List UInt8} (h0:∀ i,i < 4→Wv l i=0):Lb l=none:=by
 have a:=h0 0 (by omega);have b:=h0 1 (by omega);have c:=h0 2 (by omega);have d:=h0 3 (by omega);unfold Lb;rw [if_neg (by rw [show J6 l=0 from a];simp),if_neg (by rw [show Je l=0 from b];simp),if_neg (by rw [show (nbL l).1=0 from c];simp)];unfold Wv at d
 cases hq:Xx l with
 | none=>rfl
 | some q =>
   rw [hq] at d;have:=(Ct hq).1;simp only at d;omega
theorem Yjo (l:List UInt8) (j:Nat):Wv l j≤l.length:=by
 match j with
 | 0=>exact Zkm l
 | 1=>exact Zxe l
 | 2=>exact Ws l
 | j+3 =>
   show (match Xx l with|some q=>q.2|none=>0)≤_
   cases hq:Xx l with
   | none=>simp
   | some q=>exact (Ct hq).2
def Ik (l:List UInt8) (k:Nat) (done:List (Int × List UInt8)):Prop:=Ua l=(Ua (l.drop k)).map (done ++ ·)
theorem Ik.gap {l:List UInt8} {k g:Nat} {done:List (Int × List UInt8)} (h:Ik l k done) (hg:Jy (l.drop k)=g) (g0:g ≠ 0):Ik l (k+g) done:=by
 unfold Ik at *;rw [h,Zz0 (by rw [hg];exact g0),hg,List.drop_drop]
theorem Ik.tok {l:List UInt8} {k:Nat} {done:List (Int × List UInt8)} {t:Int × List UInt8} {n:Nat} (h:Ik l k done) (hg:Jy (l.drop k)=0) (hk:l.drop k ≠ []) (ht:Lb (l.drop k)=some (t,n)):Ik l (k+n) (done++[t]):=by
 unfold Ik at *;rw [h,Bw hg hk ht,List.drop_drop,Option.map_map]
 congr 1
 funext q
 simp
theorem Ik.bad {l:List UInt8} {k:Nat} {done:List (Int × List UInt8)} (h:Ik l k done) (hg:Jy (l.drop k)=0) (hk:l.drop k ≠ []) (ht:Lb (l.drop k)=none):Ua l=none:=by
 rw [h,Ny hg hk ht];rfl
theorem Ik.fin {l:List UInt8} {k:Nat} {done:List (Int × List UInt8)} (h:Ik l k done) (hk:l.drop k=[]):Ua l=some done:=by
 rw [h,hk,Dz];simp
theorem Yec {w:World} {b:Nat} {t:TypeId} {a c d e:Value} (h:w.heap[b]? = some (.cells #[a,c,d,e] t (0,0))):w.cell? ⟨b,0,none⟩=some a∧w.cell? ⟨b,1,none⟩=some c∧w.cell? ⟨b,2,none⟩=some d∧w.cell? ⟨b,3,none⟩=some e:=by
 simp [World.cell?,h]
theorem Dm (s : ByteArray) (w:World) (hs:s.size≤9000) (h3:Ue w):Calls Tryz.prog 19 #[.string s] w fun e w'=>∃ A cap,e=.returned (.tuple #[.slice A (Zz s.data.toList).1.length cap,.int .i64 (Zz s.data.toList).2])∧w'.ownsRow w.heap.size 45 2 (.slice A (Zz s.data.toList).1.length cap) (Zz s.data.toList).1.length (X8 (Zz s.data.toList).1)∧Below w.heap.size w w':=by
 obtain ⟨i0,hi,hz0,hz1,hz2⟩:=info_parts Zxn;have hl:=Z7 s
 by_cases hbig:8192 < s.size
 · have hr:Hid (Zz s.data.toList=([],3)):=Hd (by unfold Zz;rw [if_pos (by omega)])
   have hbig':(8192:Int) < (s.size:Int):=by omega
   clear hl h3
   go_enter Tryz.func19,Tryz.ntmps19
   go_wp2
   go_step3
   go_wp2_with fail
   simp only [Exit.noGoto_ret]
   go_ret2
   rw [hr.out];exact ⟨none,0,rfl,World.ownsRow_nil _ _ _ _,Below.refl _ _⟩
 have hbig' : ¬ (8192:Int) < (s.size:Int):=by omega
 have hS:=Zyl s w (by omega) h3.1
 cases hsrc:X7 s.data.toList
 · have hr:Hid (Zz s.data.toList=([],2)):=Hd (by unfold Zz;rw [if_neg (by omega),if_pos hsrc])
   rw [hsrc] at hS;have HS:=Hd hS;clear hl h3 hS hsrc
   go_enter Tryz.func19,Tryz.ntmps19
   go_wp2
   go_step3
   go_wp2_with fail
   refine HS.out.mono ?_;rintro e w1 ⟨rfl,hb⟩;have HB:=Hd hb;clear hb;go_wp2_with fail
   simp only [Exit.noGoto_ret]
   go_ret2
   rw [hr.out];exact ⟨none,0,rfl,World.ownsRow_nil _ _ _ _,HB.out⟩
 have hrs:Hid (Zz s.data.toList=match Ua s.data.toList with|none=>([],2)|some ts=>(ts,0)):=Hd (by unfold Zz;rw [if_neg (by omega),if_neg (by rw [hsrc];simp)]);rw [hsrc] at hS;have HS:=Hd hS;have H3:=Hd h3;have HL:=Hd hl;clear hS hsrc h3 hl
 go_enter Tryz.func19,Tryz.ntmps19
 go_wp2
 go_step3
 go_wp2_with fail
 refine HS.out.mono ?_;rintro e w1 ⟨rfl,hb1⟩;have HB1:=Hd hb1;have hb1s:=hb1.size;clear hb1;go_wp2_with fail
 go_step3
 go_wp2_with fail
 go_loopg [5,6] s.size (fun g ov av wx=>∃ (k:Nat) (done:List (Int × List UInt8)),k+g=s.size∧av=.int .i64 k∧done.length≤k∧Aside (Ik s.data.toList k done)∧wx.ownsRow (w1.heap.size+1) 45 2 ov done.length (X8 done)∧wx.heap[w1.heap.size]? = some (.cells U0 80 (0,0))∧Below w1.heap.size w1 wx)
 case atStart=>exact ⟨0,[],by omega,rfl,by simp,Aside.intro (by unfold Ik;rw [List.drop_zero];cases Ua s.data.toList<;>simp),World.ownsRow_nil _ _ _ _,heap_alloc_last _ _,Y5⟩
 case round =>
   obtain ⟨k,done,hk,rfl,hdl,HR,hown,harr,hb⟩:=hrel;obtain ⟨A,cap,rfl⟩:=Vt hown;have hbs:=hb.size;have hlt1:w1.heap.size < wr.heap.size:=(Array.getElem?_eq_some_iff.1 harr).1;have hk0:(0:Int)≤(k:Int):=by omega
   have hks:(k:Int)≤(s.size:Int):=by omega
   have HB:=Hd hb;have hG:=You s k wr hs;have hgl:=Mc (s.data.toList.drop k);rw [List.length_drop,HL.out] at hgl;obtain ⟨g,hg⟩:∃ g,Jy (s.data.toList.drop k)=g:=⟨_,rfl⟩;rw [hg] at hG hgl;have HG:=Hd hG;have HGE:=Hd hg;clear hG hg hb;rcases Nat.eq_zero_or_pos g with hz|hz
   · subst hz
     by_cases hend:k=s.size
     · have e0:((k:Int) == (s.size:Int))=true:=by simp;omega
       have hr:Hid (Zz s.data.toList=(done,0)):=Hd (by rw [hrs.out,HR.out.fin (Ys s k (by omega))]);clear hend HR;go_wp2_with fail
       refine HG.out.mono ?_;rintro e w2 ⟨rfl,hb2⟩;have HO:=Hd (Xh hown hb2);have HB2:=Hd hb2;clear hb2 hown;go_wp2_with fail
       simp only [Exit.noGoto_ret]
       go_ret2
       rw [hr.out];exact ⟨A,cap,rfl,Ygl HO.out (by omega),(HB1.out.trans (HB.out.mono hb1s)).trans (HB2.out.mono (by omega))⟩
     · have e0:((k:Int) == (s.size:Int))=false:=by simp;omega
       have hlt:k < s.size:=by omega
       have hne:Hid (s.data.toList.drop k ≠ []):=Hd (by rw [Zc s k hlt];simp);clear hend;go_wp2_with fail
       refine HG.out.mono ?_;rintro e w2 ⟨rfl,hb2⟩;obtain ⟨c0,c1,c2,c3⟩:=Yec ((hb2.block w1.heap.size hlt1).trans harr);have hown2:=Xh hown hb2;have harr2:=(hb2.block w1.heap.size hlt1).trans harr;have hb12:=HB.out.trans (hb2.mono hbs);clear hb2 hown harr;go_wp2_with fail
       go_loopg [5,6,35] 4 (fun g2 ov2 av2 jv wx=>∃ j:Nat,j+g2=4∧ov2=.slice A done.length cap∧av2=.int .i64 k∧jv=.int .i64 j∧Aside (∀ i,i < j→Wv (s.data.toList.drop k) i=0)∧wx.ownsRow (w1.heap.size+1) 45 2 (.slice A done.length cap) done.length (X8 done)∧wx.heap[w1.heap.size]? = some (.cells U0 80 (0,0))∧Below w1.heap.size w1 wx)
       case atStart=>exact ⟨0,by omega,rfl,rfl,rfl,Aside.intro (fun i h=>by omega),hown2,harr2,hb12⟩
       case round =>
        obtain ⟨j,hj,rfl,rfl,rfl,HK,hown,harr,hb⟩:=hrel;have hbs2:=hb.size;have hlt2:w1.heap.size < wr.heap.size:=(Array.getElem?_eq_some_iff.1 harr).1;have HB:=Hd hb;have H3r:=Hd (H3.out.below (HB1.out.trans (hb.mono hb1s)));clear hb
        by_cases hj4:j=4
        · have hr:Hid (Zz s.data.toList=([],2)):=Hd (by rw [hrs.out,HR.out.bad HGE.out hne.out (Zjl (by rw [hj4] at HK;exact HK.out))])
          subst hj4;clear HK HR hown;go_wp2_with fail
          simp only [Exit.noGoto_ret]
          go_ret2
          rw [hr.out];exact ⟨none,0,rfl,World.ownsRow_nil _ _ _ _,HB1.out.trans (HB.out.mono hb1s)⟩
        · have hC:=Ykt s k wr hs H3r.out j
          have hnl:=Yjo (s.data.toList.drop k) j;rw [List.length_drop,HL.out] at hnl;obtain ⟨n,hn⟩:∃ n,Wv (s.data.toList.drop k) j=n:=⟨_,rfl⟩;obtain ⟨K,hKK⟩:∃ K,Ydk (s.data.toList.drop k) j=K:=⟨_,rfl⟩;obtain ⟨T,hT⟩:∃ T,Ydc (s.data.toList.drop k) j=T:=⟨_,rfl⟩;rw [hn,hKK,hT] at hC;rw [hn] at hnl;have HN:=Hd hn;rcases Nat.eq_zero_or_pos n with hnz|hnz
          · have hK2:Hid (∀ i,i < j+1→Wv (s.data.toList.drop k) i=0):=Hd (fun i hi=>by
              rcases Nat.lt_or_ge i j with h|h
              · exact HK.out i h
              · obtain rfl:i=j:=by omega
                exact HN.out.trans hnz)
            subst hnz;rw [Ymk] at hC;clear HK hn hKK hT;rcases (by omega:j=0∨j=1∨j=2∨j=3) with rfl|rfl|rfl|rfl
            · have HC:=Hd hC
              have hidx:=Ypn;clear hC;go_wp2_with fail
              refine HC.out.mono ?_;rintro e w3 ⟨rfl,hb3⟩;have HO:=Hd ((Xh hown hb3).alloc (.cells #[.int .i64 0,.string ⟨#[]⟩] 45));have HB3:=Hd hb3;have hb3s:=hb3.size;clear hb3 hown hidx;go_wp2_with fail
              go_roundg 3
              case measure=>omega
              case rel=>exact ⟨1,by omega,rfl,rfl,by go_num,Aside.intro hK2.out,HO.out,(Below.heap_alloc _ _ _ (by omega)).trans ((HB3.out.block w1.heap.size hlt2).trans harr),(HB.out.trans (HB3.out.mono hbs2)).alloc (by omega) _⟩
            · have HC:=Hd hC
              have hidx:=Yoe;clear hC;go_wp2_with fail
              refine HC.out.mono ?_;rintro e w3 ⟨rfl,hb3⟩;have HO:=Hd ((Xh hown hb3).alloc (.cells #[.int .i64 0,.string ⟨#[]⟩] 45));have HB3:=Hd hb3;have hb3s:=hb3.size;clear hb3 hown hidx;go_wp2_with fail
              go_roundg 2
              case measure=>omega
              case rel=>exact ⟨2,by omega,rfl,rfl,by go_num,Aside.intro hK2.out,HO.out,(Below.heap_alloc _ _ _ (by omega)).trans ((HB3.out.block w1.heap.size hlt2).trans harr),(HB.out.trans (HB3.out.mono hbs2)).alloc (by omega) _⟩
            · have HC:=Hd hC
              have hidx:=Yp2;clear hC;go_wp2_with fail
              refine HC.out.mono ?_;rintro e w3 ⟨rfl,hb3⟩;have HO:=Hd ((Xh hown hb3).alloc (.cells #[.int .i64 0,.string ⟨#[]⟩] 45));have HB3:=Hd hb3;have hb3s:=hb3.size;clear hb3 hown hidx;go_wp2_with fail
              go_roundg 1
              case measure=>omega
              case rel=>exact ⟨3,by omega,rfl,rfl,by go_num,Aside.intro hK2.out,HO.out,(Below.heap_alloc _ _ _ (by omega)).trans ((HB3.out.block w1.heap.size hlt2).trans harr),(HB.out.trans (HB3.out.mono hbs2)).alloc (by omega) _⟩
            · have HC:=Hd hC
              have hidx:=Ypi;clear hC;go_wp2_with fail
              refine HC.out.mono ?_;rintro e w3 ⟨rfl,hb3⟩;have HO:=Hd ((Xh hown hb3).alloc (.cells #[.int .i64 0,.string ⟨#[]⟩] 45));have HB3:=Hd hb3;have hb3s:=hb3.size;clear hb3 hown hidx;go_wp2_with fail
              go_roundg 0
              case measure=>omega
              case rel=>exact ⟨4,by omega,rfl,rfl,by go_num,Aside.intro hK2.out,HO.out,(Below.heap_alloc _ _ _ (by omega)).trans ((HB3.out.block w1.heap.size hlt2).trans harr),(HB.out.trans (HB3.out.mono hbs2)).alloc (by omega) _⟩
          · have hn0:(0:Int) < (n:Int):=by omega
            have hT2:=Hd (HR.out.tok HGE.out hne.out (Ybc (by omega) HK.out (by rw [hn];omega)));rw [hn,hKK,hT] at hT2;rw [Il (by omega)] at hC;clear HK hn hKK hT HR;rcases (by omega:j=0∨j=1∨j=2∨j=3) with rfl|rfl|rfl|rfl
            · have HC:=Hd hC
              have hidx:=Ypn;clear hC;go_wp2_with fail
              refine HC.out.mono ?_;rintro e w3 ⟨rfl,hb3⟩;have hown3:=(Xh hown hb3).alloc (.cells #[.int .i64 K,.string ⟨T.toArray⟩] 45);have HB3:=Hd hb3;have hb3s:=hb3.size;clear hb3 hown hidx
              go_wp2_with (at_builtin;refine wpList_append_own _ rfl _ _ 38 rfl (w1.heap.size+1) 45 i0 (.agg #[.int .i64 0,.string ⟨#[]⟩]) 2 24 Tryz.underlying38 hi hz0 hz1 hz2 rfl (by decide) _ _ _ rfl (hown3.alloc _) _ 1 1 [.int .i64 K,.string ⟨T.toArray⟩] rfl rfl (Ic _ _ _ _ (by simp)) (by intro x hx;simp at hx;rcases hx with rfl|rfl<;>rfl) (by unfold maxLen;omega) (by omega) (by simp;omega) ?_;intro v' w4 hown' hgrow _;obtain ⟨A',cap',rfl⟩:=Vt hown';have HG4:=Hd hgrow;have HO4:=Hd hown';have HW:=Hd hown3;clear hgrow hown' hown3)
              have hb5:Below w1.heap.size w1 ((w3.alloc (.cells #[.int .i64 K,.string ⟨T.toArray⟩] 45)).alloc (.cells #[.int .i64 K,.string ⟨T.toArray⟩] 45)):=((HB.out.trans (HB3.out.mono hbs2)).alloc (by omega) _).alloc (by simp;omega) _
              have harr4:w4.heap[w1.heap.size]? = some (.cells U0 80 (0,0)):=by
                obtain ⟨_,_,_,_,hbk⟩:=HG4.out;rw [hbk w1.heap.size (by simp;omega) (fun e=>by have:=(HW.out.lt _ e.symm).1;omega),Below.heap_alloc _ _ _ (by simp;omega),Below.heap_alloc _ _ _ (by omega),HB3.out.block w1.heap.size hlt2];exact harr
              go_roundg (s.size - (k+n))
              case measure=>omega
              case rel=>exact ⟨k+n,done++[(K,T)],by omega,by go_num,by simp;omega,Aside.intro hT2.out,by rw [I0,List.length_append];exact HO4.out,harr4,hb5.grown HG4.out (by have:=hb5.size;omega) (fun q hq=>by have:=(HW.out.lt q hq).1;omega)⟩
            · have HC:=Hd hC
              have hidx:=Yoe;clear hC;go_wp2_with fail
              refine HC.out.mono ?_;rintro e w3 ⟨rfl,hb3⟩;have hown3:=(Xh hown hb3).alloc (.cells #[.int .i64 K,.string ⟨T.toArray⟩] 45);have HB3:=Hd hb3;have hb3s:=hb3.size;clear hb3 hown hidx
              go_wp2_with (at_builtin;refine wpList_append_own _ rfl _ _ 38 rfl (w1.heap.size+1) 45 i0 (.agg #[.int .i64 0,.string ⟨#[]⟩]) 2 24 Tryz.underlying38 hi hz0 hz1 hz2 rfl (by decide) _ _ _ rfl (hown3.alloc _) _ 1 1 [.int .i64 K,.string ⟨T.toArray⟩] rfl rfl (Ic _ _ _ _ (by simp)) (by intro x hx;simp at hx;rcases hx with rfl|rfl<;>rfl) (by unfold maxLen;omega) (by omega) (by simp;omega) ?_;intro v' w4 hown' hgrow _;obtain ⟨A',cap',rfl⟩:=Vt hown';have HG4:=Hd hgrow;have HO4:=Hd hown';have HW:=Hd hown3;clear hgrow hown' hown3)
              have hb5:Below w1.heap.size w1 ((w3.alloc (.cells #[.int .i64 K,.string ⟨T.toArray⟩] 45)).alloc (.cells #[.int .i64 K,.string ⟨T.toArray⟩] 45)):=((HB.out.trans (HB3.out.mono hbs2)).alloc (by omega) _).alloc (by simp;omega) _
              have harr4:w4.heap[w1.heap.size]? = some (.cells U0 80 (0,0)):=by
                obtain ⟨_,_,_,_,hbk⟩:=HG4.out;rw [hbk w1.heap.size (by simp;omega) (fun e=>by have:=(HW.out.lt _ e.symm).1;omega),Below.heap_alloc _ _ _ (by simp;omega),Below.heap_alloc _ _ _ (by omega),HB3.out.block w1.heap.size hlt2];exact harr
              go_roundg (s.size - (k+n))
              case measure=>omega
              case rel=>exact ⟨k+n,done++[(K,T)],by omega,by go_num,by simp;omega,Aside.intro hT2.out,by rw [I0,List.length_append];exact HO4.out,harr4,hb5.grown HG4.out (by have:=hb5.size;omega) (fun q hq=>by have:=(HW.out.lt q hq).1;omega)⟩
            · have HC:=Hd hC
              have hidx:=Yp2;clear hC;go_wp2_with fail
              refine HC.out.mono ?_;rintro e w3 ⟨rfl,hb3⟩;have hown3:=(Xh hown hb3).alloc (.cells #[.int .i64 K,.string ⟨T.toArray⟩] 45);have HB3:=Hd hb3;have hb3s:=hb3.size;clear hb3 hown hidx
              go_wp2_with (at_builtin;refine wpList_append_own _ rfl _ _ 38 rfl (w1.heap.size+1) 45 i0 (.agg #[.int .i64 0,.string ⟨#[]⟩]) 2 24 Tryz.underlying38 hi hz0 hz1 hz2 rfl (by decide) _ _ _ rfl (hown3.alloc _) _ 1 1 [.int .i64 K,.string ⟨T.toArray⟩] rfl rfl (Ic _ _ _ _ (by simp)) (by intro x hx;simp at hx;rcases hx with rfl|rfl<;>rfl) (by unfold maxLen;omega) (by omega) (by simp;omega) ?_;intro v' w4 hown' hgrow _;obtain ⟨A',cap',rfl⟩:=Vt hown';have HG4:=Hd hgrow;have HO4:=Hd hown';have HW:=Hd hown3;clear hgrow hown' hown3)
              have hb5:Below w1.heap.size w1 ((w3.alloc (.cells #[.int .i64 K,.string ⟨T.toArray⟩] 45)).alloc (.cells #[.int .i64 K,.string ⟨T.toArray⟩] 45)):=((HB.out.trans (HB3.out.mono hbs2)).alloc (by omega) _).alloc (by simp;omega) _
              have harr4:w4.heap[w1.heap.size]? = some (.cells U0 80 (0,0)):=by
                obtain ⟨_,_,_,_,hbk⟩:=HG4.out;rw [hbk w1.heap.size (by simp;omega) (fun e=>by have:=(HW.out.lt _ e.symm).1;omega),Below.heap_alloc _ _ _ (by simp;omega),Below.heap_alloc _ _ _ (by omega),HB3.out.block w1.heap.size hlt2];exact harr
              go_roundg (s.size - (k+n))
              case measure=>omega
              case rel=>exact ⟨k+n,done++[(K,T)],by omega,by go_num,by simp;omega,Aside.intro hT2.out,by rw [I0,List.length_append];exact HO4.out,harr4,hb5.grown HG4.out (by have:=hb5.size;omega) (fun q hq=>by have:=(HW.out.lt q hq).1;omega)⟩
            · have HC:=Hd hC
              have hidx:=Ypi;clear hC;go_wp2_with fail
              refine HC.out.mono ?_;rintro e w3 ⟨rfl,hb3⟩;have hown3:=(Xh hown hb3).alloc (.cells #[.int .i64 K,.string ⟨T.toArray⟩] 45);have HB3:=Hd hb3;have hb3s:=hb3.size;clear hb3 hown hidx
              go_wp2_with (at_builtin;refine wpList_append_own _ rfl _ _ 38 rfl (w1.heap.size+1) 45 i0 (.agg #[.int .i64 0,.string ⟨#[]⟩]) 2 24 Tryz.underlying38 hi hz0 hz1 hz2 rfl (by decide) _ _ _ rfl (hown3.alloc _) _ 1 1 [.int .i64 K,.string ⟨T.toArray⟩] rfl rfl (Ic _ _ _ _ (by simp)) (by intro x hx;simp at hx;rcases hx with rfl|rfl<;>rfl) (by unfold maxLen;omega) (by omega) (by simp;omega) ?_;intro v' w4 hown' hgrow _;obtain ⟨A',cap',rfl⟩:=Vt hown';have HG4:=Hd hgrow;have HO4:=Hd hown';have HW:=Hd hown3;clear hgrow hown' hown3)
              have hb5:Below w1.heap.size w1 ((w3.alloc (.cells #[.int .i64 K,.string ⟨T.toArray⟩] 45)).alloc (.cells #[.int .i64 K,.string ⟨T.toArray⟩] 45)):=((HB.out.trans (HB3.out.mono hbs2)).alloc (by omega) _).alloc (by simp;omega) _
              have harr4:w4.heap[w1.heap.size]? = some (.cells U0 80 (0,0)):=by
                obtain ⟨_,_,_,_,hbk⟩:=HG4.out;rw [hbk w1.heap.size (by simp;omega) (fun e=>by have:=(HW.out.lt _ e.symm).1;omega),Below.heap_alloc _ _ _ (by simp;omega),Below.heap_alloc _ _ _ (by omega),HB3.out.block w1.heap.size hlt2];exact harr
              go_roundg (s.size - (k+n))
              case measure=>omega
              case rel=>exact ⟨k+n,done++[(K,T)],by omega,by go_num,by simp;omega,Aside.intro hT2.out,by rw [I0,List.length_append];exact HO4.out,harr4,hb5.grown HG4.out (by have:=hb5.size;omega) (fun q hq=>by have:=(HW.out.lt q hq).1;omega)⟩
   · have g0:(0:Int) < (g:Int):=by omega
     have hR2:=Hd (HR.out.gap HGE.out (by omega));clear hz HR;go_wp2_with fail
     refine HG.out.mono ?_;rintro e w2 ⟨rfl,hb2⟩;have HO:=Hd (Xh hown hb2);have HB2:=Hd hb2;clear hb2 hown;go_wp2_with fail
     go_roundg (gk - g)
     case measure=>omega
     case rel=>exact ⟨k+g,done,by omega,by go_num,by omega,Aside.intro hR2.out,HO.out,(HB2.out.block w1.heap.size hlt1).trans harr,HB.out.trans (HB2.out.mono hbs)⟩
end Go.Proofs.YtkmloefbkgcbkaaGreatDoor
