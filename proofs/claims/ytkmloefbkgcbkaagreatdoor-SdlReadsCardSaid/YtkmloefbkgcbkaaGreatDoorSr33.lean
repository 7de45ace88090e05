/- The walks of the document's own Codes, Good, Source and Name. -/
import Derived.Test.YtkmloefbkgcbkaaGreatDoorSr32
import Derived.LoopN
import Derived.Laws.BytesString
import Derived.Laws.Append
set_option maxRecDepth 100000
set_option maxHeartbeats 2000000
namespace Go.Proofs.YtkmloefbkgcbkaaGreatDoor
open Go.RowKit
theorem Zvb:∀ (n:Nat) (l:List UInt8) (cs:List Int),l.length≤n→Jc l=some cs→cs.length≤l.length:=by
 intro n
 induction n with
 | zero =>
   intro l cs hl h;have:l=[]:=List.eq_nil_of_length_eq_zero (by omega);subst this;rw [Fe,Option.some.injEq] at h;subst h;simp
 | succ n ih =>
   intro l cs hl h
   by_cases hn:l=[]
   · subst hn
     rw [Fe,Option.some.injEq] at h;subst h;simp
   · by_cases h0:(dec l).2=0
     · rw [Lo hn h0] at h;cases h
     · rw [Ux hn h0] at h
       obtain ⟨cs',h',rfl⟩:=Option.map_eq_some_iff.1 h;have hb:=Mv l;have:=ih _ cs' (by rw [List.length_drop];omega) h';rw [List.length_drop] at this;rw [List.length_cons];omega
theorem Yje {l:List UInt8} {cs:List Int} (h:Jc l=some cs):cs.length≤l.length:=Zvb _ l cs (Nat.le_refl _) h
def Lh (l:List UInt8):List Int:=match Jc l with|some cs=>cs|none=>[]
def Yl9 (l:List UInt8) (k:Nat) (cs:List Int):Prop:=cs.length≤k∧(Jc (l.drop k)).map (fun r=>cs++r)=Jc l
theorem Zvv (s:ByteArray) (w:World) (hs:s.size≤9000) :
  Calls Tryz.prog 59 #[.string s] w fun e w'=>∃ A c,e=.returned (.tuple #[.slice A (Lh s.data.toList).length c,.bool (Zm s.data.toList)])∧Ln w' w'.heap.size A (Lh s.data.toList).length (Lh s.data.toList)∧Below w.heap.size w w':=by
 have hi9:(Tryz.prog.info? 3).map (fun i=>(i.zero,i.size,i.bytes))=some (some (.int .i64 0),1,8):=by kernel_rfl
 obtain ⟨i0,hi,hx⟩:=Option.map_eq_some_iff.1 hi9;simp only [Prod.mk.injEq] at hx;obtain ⟨hz0,hz1,hz2⟩:=hx;clear hi9;have HL:Hid (s.data.toList.length=s.size):=Hd Array.length_toList
 go_enter Tryz.func59,Tryz.ntmps59
 go_wp2
 go_loopg [4,5] s.size (fun g out i wx=>∃ (k:Nat) (cs:List Int),k+g=s.size∧i=.int .i64 k∧Aside (Yl9 s.data.toList k cs)∧wx.ownsRow w.heap.size 3 1 out cs.length (cs.map (Value.int .i64))∧Below w.heap.size w wx)
 case atStart=>exact ⟨0,[],by omega,rfl,Aside.intro ⟨by simp,by simp⟩,World.ownsRow_nil _ _ _ _,Below.refl _ _⟩
 case round =>
  obtain ⟨k,cs,hk,rfl,H,hown,hb⟩:=hrel;obtain ⟨A,cap,rfl⟩:=Xn hown
  cases gk with
  | zero =>
    obtain rfl:k=s.size:=by omega
    have hc:Jc s.data.toList=some cs:=by rw [← H.out.2,List.drop_eq_nil_of_le (by rw [HL.out];omega)];simp [Fe]
    have h1:Hid (Zm s.data.toList=true):=Hd (by rw [J9,hc];rfl);have h2:Hid (Lh s.data.toList=cs):=Hd (by unfold Lh;rw [hc]);have hI:=Hd (Zj7 hown).2;clear H hc hown;go_wp2
    go_ret2
    exact ⟨A,cap,by rw [h1.out,h2.out];rfl,by rw [h2.out];exact hI.out,hb⟩
  | succ g =>
    have hlt:k < s.size:=by omega
    have hlt':(k:Int) < (s.size:Int):=by omega
    have hne:Hid (s.data.toList.drop k ≠ []):=Hd (fun e=>by have:=congrArg List.length e;rw [List.length_drop,HL.out] at this;simp at this;omega);have hdl:Hid ((s.data.toList.drop k).length=s.size - k):=Hd (by rw [List.length_drop,HL.out]);have hbd:=Mv (s.data.toList.drop k);have hcode:=Zxs s k wr hs hlt;have hst:=Hd (Ux (l:=s.data.toList.drop k) hne.out);have hbad:=Hd (Lo (l:=s.data.toList.drop k) hne.out);generalize dec (s.data.toList.drop k)=d at *;obtain ⟨c,n⟩:=d;simp only at hbd hcode hst hbad;obtain ⟨b1,b2,b3,b4,b5,b6⟩:=hbd;rw [hdl.out] at b3;have HC:=Hd hcode;clear hcode b6
    by_cases hn:n=0
    · have hc:Jc s.data.toList=none:=by rw [← H.out.2,hbad.out hn];rfl
      have h1:Hid (Zm s.data.toList=false):=Hd (by rw [J9,hc];rfl);have h2:Hid (Lh s.data.toList=[]):=Hd (by unfold Lh;rw [hc]);have z0:(n == 0)=true:=by simp [hn]
      clear H hst hbad hn hc hown;go_wp2_with fail
      refine HC.out.mono ?_;rintro e w1 ⟨rfl,rfl⟩;go_wp2_with fail
      go_ret2
      exact ⟨none,0,by rw [h1.out,h2.out];rfl,by rw [h2.out];exact ⟨rfl,fun j z hz=>by simp at hz⟩,hb⟩
    · have z0:(n == 0)=false:=by simp [hn]
      have hE':Hid ((Jc ((s.data.toList.drop k).drop n.toNat)).map (fun r=>(cs++[c])++r)=Jc s.data.toList):=Hd (by
       rw [← H.out.2,hst.out hn,Option.map_map]
       congr 1
       funext r
       simp)
      have hcl:=H.out.1;have hn1:1≤n:=by omega
      have HB:=Hd hb;clear H hst hbad hn hb;go_wp2_with fail
      refine HC.out.mono ?_;rintro e w1 ⟨rfl,rfl⟩
      go_wp2_with (at_builtin;refine wpList_append_own _ rfl _ _ 100 rfl w.heap.size 3 i0 (.int .i64 0) 1 8 Tryz.underlying100 hi hz0 hz1 hz2 rfl (by decide) _ _ _ rfl (hown.alloc _) ⟨wr.heap.size,0,none⟩ 1 1 [.int .i64 c] rfl rfl (cell_one_new _ _ _) (by intro x hx;simp at hx;rcases hx with rfl;rfl) (by unfold maxLen;omega) (by omega) (by have:=HB.out.size;simp;omega) ?_;intro v' w3 hown' hgrow _;obtain ⟨A',cap',rfl⟩:=Xn hown';have HG:=Hd hgrow;have HO:=Hd hown';have HW:=Hd hown;clear hgrow hown' hown)
      obtain ⟨m,rfl⟩:=Int.eq_ofNat_of_zero_le b1
      go_roundg (s.size - (k+m))
      case measure=>omega
      case rel=>exact ⟨k+m,cs++[c],by omega,by go_num,Aside.intro ⟨by rw [List.length_append];simp;omega,by rw [← hE'.out,List.drop_drop];rfl⟩,by rw [List.map_append,List.length_append];exact HO.out,(HB.out.alloc HB.out.size _).grown HG.out (by have:=HB.out.size;simp;omega) (fun q hq=>(HW.out.lt q hq).1)⟩
theorem Yi3 {cs:List Int} {p:Int→Bool} {k:Nat} {z:Int} (h:(cs.take k).all p=true) (hz:cs[k]? = some z) (hp:p z=true):(cs.take (k+1)).all p=true:=by
 rw [List.take_add_one,hz,List.all_append,h];simp [hp]
theorem Yp6 {cs:List Int} {p:Int→Bool} {k:Nat} {z:Int} (hz:cs[k]? = some z) (hp:p z=false):cs.all p=false:=by
 rw [List.all_eq_false];exact ⟨z,List.mem_of_getElem? hz,by simp [hp]⟩
theorem Zk9 (s:ByteArray) (w:World) (hs:s.size≤9000):Calls Tryz.prog 27 #[.string s] w fun e w'=>e=.returned (.bool (X7 s.data.toList))∧Below w.heap.size w w':=by
 have H:=Hd (Zvv s w hs)
 cases hg:Jc s.data.toList with
 | none =>
   have h1:Hid (Zm s.data.toList=false):=Hd (by rw [J9,hg];rfl);have h2:Hid (X7 s.data.toList=false):=Hd (by unfold X7 Ix;rw [hg]);have h3:Hid (Lh s.data.toList=[]):=Hd (by unfold Lh;rw [hg]);clear hg
   go_enter Tryz.func27,Tryz.ntmps27
   go_wp2_with fail
   refine H.out.mono ?_;rintro e w1 ⟨A,c,rfl,_,hb⟩;rw [h1.out,h3.out];go_wp2_with fail
   refine wp_loop_rounds 1 ?_;rw [rounds_succ];go_wp2
   go_ret
   exact ⟨Z6 h2.out.symm,hb⟩
 | some cs =>
   have h1:Hid (Zm s.data.toList=true):=Hd (by rw [J9,hg];rfl);have h2:Hid (X7 s.data.toList=cs.all Yd5):=Hd (by unfold X7 Ix;rw [hg]);have h3:Hid (Lh s.data.toList=cs):=Hd (by unfold Lh;rw [hg]);have hlen:=Gq _ _ cs (Nat.le_refl _) hg;have hcl:Hid (cs.length≤9000):=Hd (by have:=Yje hg;rw [← Lib.size_eq] at this;omega);have hok:Hid (cs.all okB=true):=Hd hlen.2;clear hg hlen
   go_enter Tryz.func27,Tryz.ntmps27
   go_wp2_with fail
   refine H.out.mono ?_;rintro e w1 ⟨A,c,rfl,I1,hb⟩;rw [h1.out,h3.out];rw [h3.out] at I1;have HI:=Hd I1;have HB:=Hd hb;have hcl':=hcl.out;clear I1 hb;go_wp2_with fail
   go_loopg [5] cs.length (fun g i wx=>∃ k:Nat,k+g=cs.length∧i=.int .i64 k∧Aside ((cs.take k).all Yd5=true)∧w1=wx)
   case atStart=>exact ⟨0,by omega,rfl,Aside.intro (by simp),rfl⟩
   case round =>
    obtain ⟨k,hk,rfl,HT,rfl⟩:=hrel
    cases gk with
    | zero =>
      obtain rfl:k=cs.length:=by omega
      have h4:Hid (X7 s.data.toList=true):=Hd (by rw [h2.out,← HT.out,List.take_length]);clear HT;go_wp2
      go_ret
      exact ⟨Z6 h4.out.symm,HB.out⟩
    | succ g =>
      have hlt:k < cs.length:=by omega
      have hlt':(k:Int) < (cs.length:Int):=by omega
      obtain ⟨z,hz⟩:∃ z,cs[k]? = some z:=⟨_,List.getElem?_eq_getElem (by omega)⟩;obtain ⟨b1,o1,rfl,hl1,c1⟩:=HI.out.2 k z hz
      have hz0:0≤z:=by
        have:=List.all_eq_true.1 hok.out z (List.mem_of_getElem? hz);simp [okB] at this
        exact this.1
      cases hsz:Yd5 z
      · have h4:Hid (X7 s.data.toList=false):=Hd (by rw [h2.out];exact Yp6 hz hsz)
        have hq:(z < 32∧z ≠ 9∧z ≠ 10∧z ≠ 13)∨65535 < z:=by simp [Yd5] at hsz;omega
        clear HT hz hsz;rcases hq with ⟨q1,q2,q3,q4⟩|q1
        · have e9:(z != 9)=true:=by simp [q2]
          have e10:(z != 10)=true:=by simp [q3]
          have e13:(z != 13)=true:=by simp [q4]
          go_wp2
          go_ret
          exact ⟨Z6 h4.out.symm,HB.out⟩
        · have e32:decide (z < 32)=false:=by simp;omega
          go_wp2
          go_ret
          exact ⟨Z6 h4.out.symm,HB.out⟩
      · have h4:=Hd (Yi3 HT.out hz hsz)
        have hq:z=9∨z=10∨z=13∨(32≤z∧z≤65535):=by simp [Yd5] at hsz;omega
        clear HT hz hsz;rcases hq with q1|q1|q1|⟨q1,q2⟩
        · subst q1
          go_wp2
          go_roundg g
          case measure=>omega
          case rel=>exact ⟨k+1,by omega,by go_num,Aside.intro h4.out,rfl⟩
        · subst q1
          go_wp2
          go_roundg g
          case measure=>omega
          case rel=>exact ⟨k+1,by omega,by go_num,Aside.intro h4.out,rfl⟩
        · subst q1
          go_wp2
          go_roundg g
          case measure=>omega
          case rel=>exact ⟨k+1,by omega,by go_num,Aside.intro h4.out,rfl⟩
        · have e32:decide (z < 32)=false:=by simp;omega
          have e65:decide (65535 < z)=false:=by simp;omega
          go_wp2
          go_roundg g
          case measure=>omega
          case rel=>exact ⟨k+1,by omega,by go_num,Aside.intro h4.out,rfl⟩
theorem Fy:∀ x:Fin 64,bits .or .i64 128 ((x.val:Nat):Int)=128+((x.val:Nat):Int)∧bits .or .i64 192 ((x.val:Nat):Int)=192+((x.val:Nat):Int)∧(x.val < 32→bits .or .i64 224 ((x.val:Nat):Int)=224+((x.val:Nat):Int))∧(x.val < 16→bits .or .i64 240 ((x.val:Nat):Int)=240+((x.val:Nat):Int)):=by decide +kernel
theorem Nx {x:Int} (h0:0≤x) (h1:x < 64):bits .or .i64 128 x=128+x:=by
 obtain ⟨n,rfl⟩:=Int.eq_ofNat_of_zero_le h0;exact (Fy ⟨n,by omega⟩).1
theorem Yo3 {x:Int} (h0:0≤x) (h1:x < 64):bits .or .i64 192 x=192+x:=by
 obtain ⟨n,rfl⟩:=Int.eq_ofNat_of_zero_le h0;exact (Fy ⟨n,by omega⟩).2.1
theorem Ypq {x:Int} (h0:0≤x) (h1:x < 32):bits .or .i64 224 x=224+x:=by
 obtain ⟨n,rfl⟩:=Int.eq_ofNat_of_zero_le h0;exact (Fy ⟨n,by omega⟩).2.2.1 (by show n < 32;omega)
theorem Yp4 {x:Int} (h0:0≤x) (h1:x < 16):bits .or .i64 240 x=240+x:=by
 obtain ⟨n,rfl⟩:=Int.eq_ofNat_of_zero_le h0;exact (Fy ⟨n,by omega⟩).2.2.2 (by show n < 16;omega)
theorem P7 {x:Int} (h0:0≤x) (h1:x < 9223372036854775808):bits .and .i64 x 63=x % 64:=by
 obtain ⟨a,rfl⟩:=Int.eq_ofNat_of_zero_le h0
 show IntKind.i64.wrap ((BitVec.ofInt 64 (a:Int) &&& BitVec.ofInt 64 ((63:Nat):Int)).toNat:Int)=_;rw [BitVec.toNat_and,Fc a (by omega),Fc 63 (by omega),show (63:Nat)=2 ^ 6 - 1 from rfl,Nat.and_two_pow_sub_one_eq_mod,IntKind.wrap_i64];omega
theorem Yii (b n:Nat):(⟨b,0,none⟩:Addr).add n=⟨b,n,none⟩:=by unfold Addr.add;split<;>simp_all
theorem Yag:∀ (ns:List Int) (a:Array UInt8),ns.foldl (fun r n=>r.push (UInt8.ofNat n.toNat)) (⟨a⟩:ByteArray)=⟨a++(ns.map fun x=>x.toNat.toUInt8).toArray⟩:=by
 intro ns
 induction ns with
 | nil=>intro a;simp
 | cons n ns ih =>
   intro a;rw [List.foldl_cons]
   show ns.foldl _ (⟨a.push (UInt8.ofNat n.toNat)⟩:ByteArray)=_;rw [ih];refine congrArg ByteArray.mk (Array.toList_inj.1 ?_);rw [Array.toList_append,Array.toList_append,Array.toList_push,List.map_cons,List.append_assoc]
   rfl
theorem Eq (c:Int) (ns:List Int) (h:Lib.encodeRuneZ c=ns) (w:World):(convert 128 9 (.slice (some ⟨w.heap.size,0,none⟩) ns.length ns.length)).run Tryz.prog (w.alloc (.cells (ns.map (Value.int .u8)).toArray 5))=.ok (.string ⟨(Lib.encodeRune c).toArray⟩) (w.alloc (.cells (ns.map (Value.int .u8)).toArray 5)):=by
 rw [run_convert_bytes_string _ _ _ _ _ _ _ Tryz.underlying128 Tryz.underlying5 Tryz.underlying9];rw [run_bytesToString _ _ _ _ ns]
 · have:=Yag ns #[]
   rw [show (ByteArray.empty)=(⟨#[]⟩:ByteArray) from rfl,this];unfold Lib.encodeRune;rw [h];simp
 · have:=run_loadCells_list (P:=Tryz.prog) (w.alloc (.cells (ns.map (Value.int .u8)).toArray 5)) ⟨w.heap.size,0,none⟩ (ns.map (Value.int .u8)) (fun j v hj=>by
    rw [Yii,World.cell?_alloc_at _ _ _ _ rfl]
    simpa using hj)
   rw [List.length_map] at this;exact this
theorem Zzk (c:Int) (w:World) (hok:okB c=true):Calls Tryz.prog 95 #[.int .i64 c] w fun e w'=>e=.returned (.string ⟨(Lib.encodeRune c).toArray⟩)∧Below w.heap.size w w':=by
 have hok':0≤c∧c≤1114111∧X6 c=false:=by simpa [okB] using hok
 obtain ⟨h0,h1,h2⟩:=hok';have hh : ¬ (55296≤c∧c≤57343):=by simpa [X6] using h2
 clear hok h2
 by_cases a1:c < 128
 · have tx:=Eq c _ (Lib.encodeRuneZ_one h0 (show c≤127 by omega)) w
   simp only [List.map_cons,List.map_nil,List.length_cons,List.length_nil,Nat.zero_add] at tx;clear hh;generalize (⟨(Lib.encodeRune c).toArray⟩:ByteArray)=T at *
   go_enter Tryz.func95,Tryz.ntmps95
   go_wp2
   go_ret
   exact ⟨rfl,(Below.refl _ _).alloc (Nat.le_refl _) _⟩
 by_cases a2:c < 2048
 · have tx:=Eq c _ (Lib.encodeRuneZ_two (show 128≤c by omega) (show c≤2047 by omega)) w
   simp only [List.map_cons,List.map_nil,List.length_cons,List.length_nil,Nat.zero_add,Nat.reduceAdd] at tx;have m1:=Yo3 (x:=c / 64) (by omega) (by omega);have m2:=P7 (x:=c) h0 (by omega);have m3:=Nx (x:=c % 64) (by omega) (by omega);have m4:(192+c / 64) % 256=192+c / 64:=by omega
   have m5:(128+c % 64) % 256=128+c % 64:=by omega
   clear hh;generalize (⟨(Lib.encodeRune c).toArray⟩:ByteArray)=T at *
   go_enter Tryz.func95,Tryz.ntmps95
   go_wp2
   go_ret
   exact ⟨rfl,(Below.refl _ _).alloc (Nat.le_refl _) _⟩
 by_cases a3:c < 65536
 · have tx:=Eq c _ (Lib.encodeRuneZ_three (show (2048≤c∧c < 55296)∨(57343 < c∧c≤65535) by omega)) w
   simp only [List.map_cons,List.map_nil,List.length_cons,List.length_nil,Nat.zero_add,Nat.reduceAdd] at tx;have m1:=Ypq (x:=c / 4096) (by omega) (by omega);have m2:=P7 (x:=c) h0 (by omega);have m3:=Nx (x:=c % 64) (by omega) (by omega);have m2':=P7 (x:=c / 64) (by omega) (by omega);have m3':=Nx (x:=c / 64 % 64) (by omega) (by omega);have m4:(224+c / 4096) % 256=224+c / 4096:=by omega
   have m5:(128+c % 64) % 256=128+c % 64:=by omega
   have m6:(128+c / 64 % 64) % 256=128+c / 64 % 64:=by omega
   clear hh;generalize (⟨(Lib.encodeRune c).toArray⟩:ByteArray)=T at *
   go_enter Tryz.func95,Tryz.ntmps95
   go_wp2
   go_ret
   exact ⟨rfl,(Below.refl _ _).alloc (Nat.le_refl _) _⟩
 · have tx:=Eq c _ (Lib.encodeRuneZ_four (show 65536≤c by omega) h1) w
   simp only [List.map_cons,List.map_nil,List.length_cons,List.length_nil,Nat.zero_add,Nat.reduceAdd] at tx;have m1:=Yp4 (x:=c / 262144) (by omega) (by omega);have m2:=P7 (x:=c) h0 (by omega);have m3:=Nx (x:=c % 64) (by omega) (by omega);have m2':=P7 (x:=c / 64) (by omega) (by omega);have m3':=Nx (x:=c / 64 % 64) (by omega) (by omega);have m2'':=P7 (x:=c / 4096) (by omega) (by omega);have m3'':=Nx (x:=c / 4096 % 64) (by omega) (by omega);have m4:(240+c / 262144) % 256=240+c / 262144:=by omega
   have m5:(128+c % 64) % 256=128+c % 64:=by omega
   have m6:(128+c / 64 % 64) % 256=128+c / 64 % 64:=by omega
   have m7:(128+c / 4096 % 64) % 256=128+c / 4096 % 64:=by omega
   clear hh;generalize (⟨(Lib.encodeRune c).toArray⟩:ByteArray)=T at *
   go_enter Tryz.func95,Tryz.ntmps95
   go_wp2
   go_ret
   exact ⟨rfl,(Below.refl _ _).alloc (Nat.le_refl _) _⟩
theorem Zxj (s:ByteArray) (l:List UInt8):(s ++ ⟨l.toArray⟩).data.toList=s.data.toList++l:=by simp
theorem Yma (s:ByteArray):(⟨s.data.toList.toArray⟩:ByteArray)=s:=by simp
theorem Yae {z:Int} {t:List Int} (h0:56320≤z) (h1:z < 57344):Xq (z :: t)=none:=by
 have hh:X6 z=true:=by simp [X6];omega
 cases t with
 | nil=>exact Ej hh
 | cons d t=>exact F9 hh (by simp [Ck];omega)
theorem Fo (A:Option Addr) (n cap:Nat) (zs:List Int) (w:World) (hn:n≤9000) (hz:Ln w w.heap.size A n zs) :
  Calls Tryz.prog 94 #[.slice A n cap] w fun e w'=>e=.returned (.tuple #[.string (Ii zs),.bool (Yl zs)])∧Below w.heap.size w w':=by
 have HZ:=Hd hz;clear hz
 go_enter Tryz.func94,Tryz.ntmps94
 go_wp2
 go_loopg [4,5] n (fun g out i wx=>∃ (k:Nat) (S:ByteArray),k+g=n∧i=.int .i64 k∧out=.string S∧S.size≤4*k∧Below w.heap.size w wx∧Aside (Vr zs k S.data.toList))
 case atStart=>exact ⟨0,⟨#[]⟩,by omega,rfl,rfl,by decide,Below.refl _ _,Aside.intro (by unfold Vr Vo;rw [List.drop_zero];rfl)⟩
 case round =>
  obtain ⟨k,S,hk,rfl,rfl,hS,hb,H⟩:=hrel
  cases gk with
  | zero =>
    obtain rfl:k=n:=by omega
    have hfin:=H.out.done (by rw [HZ.out.1];omega);rw [Yma] at hfin;have HF:=Hd hfin;clear H hfin;go_wp2
    go_ret2
    exact Js HF.out.1 HF.out.2 hb
  | succ g =>
    have hkn:k < n:=by omega
    have hkn':(k:Int) < (n:Int):=by omega
    obtain ⟨z,hzk⟩:∃ z,zs[k]? = some z:=⟨_,List.getElem?_eq_getElem (by rw [HZ.out.1];omega)⟩;obtain ⟨b,o,rfl,hblt,hcell⟩:=(HZ.out.below hb).2 k z hzk;have HK:=Hd hzk;clear hzk;have HB:=Hd hb;clear hb
    by_cases h0:z < 0
    · have hfin:=Hd (H.out.no (by rw [Yq HK.out];exact U7 (.inl h0)))
      clear H;go_wp2
      go_ret2
      exact Js hfin.out.1 hfin.out.2 HB.out
    have e0:decide (z < 0)=false:=by simp;omega
    by_cases h1:65535 < z
    · have hfin:=Hd (H.out.no (by rw [Yq HK.out];exact U7 (.inr (by omega))))
      clear H;go_wp2
      go_ret2
      exact Js hfin.out.1 hfin.out.2 HB.out
    have e1:decide (65535 < z)=false:=by simp;omega
    by_cases h2:56320≤z∧z < 57344
    · obtain ⟨l1,l2⟩:=h2
      have hfin:=Hd (H.out.no (by rw [Yq HK.out];exact Yae l1 l2));have e2:decide (56320≤z)=true:=by simp;omega
      have e3:decide (z < 57344)=true:=by simp;omega
      clear H;go_wp2
      go_ret2
      exact Js hfin.out.1 hfin.out.2 HB.out
    have e23:decide (56320≤z)=false∨(decide (56320≤z)=true∧decide (z < 57344)=false):=by
      by_cases h:56320≤z
      · exact .inr ⟨by simpa using h,by simp;omega⟩
      · exact .inl (by simpa using h)
    by_cases h3:55296≤z∧z < 56320
    · obtain ⟨l1,l2⟩:=h3
      have hh:X6 z=true:=by simp [X6];omega
      have hh':=Hd hh;clear hh e23;have e2:decide (56320≤z)=false:=by simp;omega
      have e4:decide (55296≤z)=true:=by simp;omega
      have e5:decide (z < 56320)=true:=by simp;omega
      by_cases hlast:n≤k+1
      · have hfin:=Hd (H.out.no (by rw [Yq HK.out,List.drop_eq_nil_of_le (by rw [HZ.out.1];omega)];exact Ej hh'.out))
        have e6:decide ((n:Int)≤(k:Int)+1)=true:=by simp;omega
        clear H;go_wp2
        go_ret2
        exact Js hfin.out.1 hfin.out.2 HB.out
      · have e6:decide ((n:Int)≤(k:Int)+1)=false:=by simp;omega
        have hk1:k+1 < n:=by omega
        have hk1':(k:Int)+1 < (n:Int):=by omega
        obtain ⟨y,hyk⟩:∃ y,zs[k+1]? = some y:=⟨_,List.getElem?_eq_getElem (by rw [HZ.out.1];omega)⟩;obtain ⟨b',o',e',hblt',hcell'⟩:=(HZ.out.below HB.out).2 (k+1) y hyk;obtain ⟨rfl,rfl⟩:b=b'∧o=o':=by injection e' with e';injection e' with e1 e2;exact ⟨e1,e2⟩
        clear e' hlast;have HK2:=Hd hyk;clear hyk
        by_cases hy1:y < 56320
        · have hfin:=Hd (H.out.no (by rw [Yq HK.out,Yq HK2.out];exact F9 hh'.out (by simp [Ck];omega)))
          have e7:decide (y < 56320)=true:=by simp;omega
          clear H;go_wp2
          go_ret2
          exact Js hfin.out.1 hfin.out.2 HB.out
        have e7:decide (y < 56320)=false:=by simp;omega
        by_cases hy2:57344≤y
        · have hfin:=Hd (H.out.no (by rw [Yq HK.out,Yq HK2.out];exact F9 hh'.out (by simp [Ck];omega)))
          have e8:decide (57344≤y)=true:=by simp;omega
          clear H;go_wp2
          go_ret2
          exact Js hfin.out.1 hfin.out.2 HB.out
        · have e8:decide (57344≤y)=false:=by simp;omega
          have hJ':=Hd (H.out.two HK.out HK2.out (by omega) (by omega) hh'.out (by simp [Ck];omega));have hokc:okB (65536+1024*(z - 55296)+y - 56320)=true:=by simp [okB,X6];omega
          have HP:=Hd (Zzk (65536+1024*(z - 55296)+y - 56320) wr hokc);have hel:=F4 (65536+1024*(z - 55296)+y - 56320);clear H hokc;go_wp2_with fail
          refine HP.out.mono ?_;rintro e w2 ⟨rfl,hb2⟩
          have hsz:(S ++ ⟨(Lib.encodeRune (65536+1024*(z - 55296)+y - 56320)).toArray⟩).size≤4*(k+2):=by
           rw [ByteArray.size_append];have:(⟨(Lib.encodeRune (65536+1024*(z - 55296)+y - 56320)).toArray⟩:ByteArray).size=(Lib.encodeRune (65536+1024*(z - 55296)+y - 56320)).length:=rfl;omega
          have HS:=Hd hsz;have HB2:=Hd (HB.out.trans (hb2.mono HB.out.size));clear hsz hb2;go_wp2_with fail
          go_roundg (n - (k+2))
          case measure=>omega
          case rel=>exact ⟨k+2,_,by omega,by go_num,rfl,HS.out,HB2.out,Aside.intro (by rw [Zxj];exact hJ'.out)⟩
    · have hh:X6 z=false:=by simp [X6];omega
      have e45:decide (55296≤z)=false∨(decide (55296≤z)=true∧decide (z < 56320)=false):=by
        by_cases h:55296≤z
        · exact .inr ⟨by simpa using h,by simp;omega⟩
        · exact .inl (by simpa using h)
      have hJ':=Hd (H.out.one HK.out (by omega) (by omega) hh);have HP:=Hd (Zzk z wr (by simp [okB,hh];omega));have hel:=F4 z;clear H hh h2 h3;rcases e23 with e2|⟨e2,e3⟩<;>rcases e45 with e4|⟨e4,e5⟩
      all_goals
        go_wp2_with fail
        refine HP.out.mono ?_;rintro e w2 ⟨rfl,hb2⟩
        have hsz:(S ++ ⟨(Lib.encodeRune z).toArray⟩).size≤4*(k+1):=by
          rw [ByteArray.size_append];have:(⟨(Lib.encodeRune z).toArray⟩:ByteArray).size=(Lib.encodeRune z).length:=rfl;omega
        have HS:=Hd hsz;have HB2:=Hd (HB.out.trans (hb2.mono HB.out.size));clear hsz hb2;go_wp2_with fail
        go_roundg g
        case measure=>omega
        case rel=>exact ⟨k+1,_,by omega,by go_num,rfl,HS.out,HB2.out,Aside.intro (by rw [Zxj];exact hJ'.out)⟩
end Go.Proofs.YtkmloefbkgcbkaaGreatDoor
